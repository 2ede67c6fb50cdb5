import Derived.Deep.DeepCutAuto
import Derived.Deep.RegionHeldLaw
import Derived.Deep.AppendLies
import Derived.Lib.AppendZeros
import Derived.Shelf.Strings.BuilderF
import Derived.Lib.UnsafeStr
import Derived.Laws.Externs
import Derived.Test.YtnoeonaajefajaaGreatDoorQSA
import Derived.Test.YtnoeonaajefajaaGreatDoorQME
import Derived.Test.YtnoeonaajefajaaGreatDoorQVC
import Derived.Test.YtnoeonaajefajaaGreatDoorQYB
set_option linter.all false
set_option maxRecDepth 100000
namespace Go.Proofs.YtnoeonaajefajaaGreatDoor
open Go.RowKit
open Lib (hid)
theorem tw_at {α:Type} {p:α→Bool} {l:List α} {k:Nat} (hk:k < l.length) (h:∀ j (hj:j < l.length),j < k→p l[j]=true) (hn:p l[k]=false):l.takeWhile p=l.take k∧l.dropWhile p=l.drop k:=by
 induction l generalizing k with
 | nil=>simp at hk
 | cons x l ih=>
  cases k with
  | zero=>
   have:p x=false:=hn;simp [this]
  | succ k=>
   have h0:p x=true:=h 0 (by simp) (by omega);have:=ih (k:=k) (by simpa using hk) (fun j hj hjk=>h (j+1) (by simpa using hj) (by omega)) hn;simp [h0,this.1,this.2]
theorem tw_none {α:Type} {p:α→Bool} {l:List α} (h:∀ j (hj:j < l.length),p l[j]=true):l.takeWhile p=l∧l.dropWhile p=[]:=by
 induction l with
 | nil=>exact ⟨rfl,rfl⟩
 | cons x l ih=>
  have h0:p x=true:=h 0 (by simp);have:=ih fun j hj=>h (j+1) (by simpa using hj)
  simp [h0,this.1,this.2]
set_option maxHeartbeats 2000000 in
theorem upToOf_h (B:Nat) (P:El→Bool) {D:Nat} (A:Option Addr) (n c:Nat) (es:List El) (w:World) (h:Pls w D A n es) (hcp:Cp A n c)
 (HC:∀ e ∈ es,∀ W,Below w.heap.size w W→Calls Tryz.prog 124 #[pE e,.pointer (some ⟨B,0,none⟩)] W fun x w'=>x=.returned (.bool (P e))∧Below W.heap.size W w') :
 Calls Tryz.prog 83 #[.slice A n c,.func (.func 124) #[] #[.pointer (some ⟨B,0,none⟩)]] w fun x w'=>
  ∃ A1 n1 c1 A2 n2 c2,x=.returned (.tuple #[.slice A1 n1 c1,.slice A2 n2 c2])∧Hid (Pls w' D A1 n1 (es.takeWhile fun e=>!P e))∧Hid (Pls w' D A2 n2 (es.dropWhile fun e=>!P e))∧Cp A1 n1 c1∧Cp A2 n2 c2∧Hid (Below w.heap.size w w'):=by
 have hc:=hcp.1
 have HL:=hid h.len
 have hn:=h.2.2.1
 have H:=hid h
 have HCC:=hid HC
 clear h HC
 go_enter Tryz.func83,Tryz.ntmps83
 go_wp2
 go_loopw [10] (fun iv wr=>∃ (k:Nat),k≤n∧iv=.int .i64 (k:Int)∧(∀ j (hj:j < es.length),j < k→P es[j]=false)∧Below w.heap.size w wr) (fun iv _=>n - (intOf iv).toNat)
 case atStart=>exact ⟨0,Nat.zero_le _,rfl,fun j _ hj=>absurd hj (by omega),Below.refl _ _⟩
 case round=>
  obtain ⟨k,hk,rfl,hall0,hb0⟩:=hrel;have HA:=hid hall0;have HB:=hid hb0;have HW:=hid (H.out.below hb0);clear hall0 hb0
  by_cases hlt:k < n
  · have hks:k < es.length:=by rw [HL.out]; exact hlt
    obtain ⟨ad,rfl,hb,c0,hz⟩:=HW.out.at_ hlt;rw [qBG hks] at c0 hz;have HCk:=hid (HCC.out es[k] (List.getElem_mem hks));obtain ⟨T,y,hT⟩:=qKV es[k];rw [hT] at c0 HCk;have HP:=hid (show P es[k]=P es[k] from rfl);generalize hpk:P es[k]=pk at HCk HP;have HPK:=hid hpk;clear hpk hT
    cases pk
    · go_wp2_with (first
       | (go_at_call 124; refine (HCk.out _ HB.out).mono ?_; rintro e w1 ⟨rfl,hb1⟩)
       | fail)
      go_roundw
      case rel=>
       refine ⟨k+1,by omega,by go_num,fun j hj hjk=>?_,HB.out.trans (hb1.mono HB.out.size)⟩
       rcases Nat.lt_or_ge j k with h1 | h1
       · exact HA.out j hj h1
       · obtain rfl:j=k:=by omega
         exact HPK.out
      case measure=>simp [intOf]; omega
    · have HT:=hid (tw_at (p:=fun e=>!P e) hks (fun j hj hjk=>by simp [HA.out j hj hjk]) (by simp [HPK.out]))
      go_wp2_with (first
       | (go_at_call 124; refine (HCk.out _ HB.out).mono ?_; rintro e w1 ⟨rfl,hb1⟩)
       | fail)
      go_quiet (fail)
      go_wp2
      go_ret2
      rw [HT.out.1,HT.out.2];have HX:=HW.out.below hb1;exact ⟨_,_,_,_,_,_,rfl,hid ((HX.below ((Below.refl _ _).of_drewN _)).take hk),hid ((HX.below ((Below.refl _ _).of_drewN _)).drop hlt),Cp.some (by omega),Cp.some (by omega),hid ((HB.out.trans (hb1.mono HB.out.size)).of_drewN _)⟩
  · have hke:k=n:=by omega
    subst hke;have HT:=hid (tw_none (p:=fun e=>!P e) (l:=es) (fun j hj=>by simp [HA.out j hj (by rw [HL.out] at hj; exact hj)]))
    go_wp2
    go_ret2
    rw [HT.out.1,HT.out.2];exact ⟨_,_,_,_,_,_,rfl,HW,hid (HW.out.nil _),hcp,Cp.nil,HB⟩
set_option maxHeartbeats 2000000 in
theorem upToRow_h (P:El→Bool) {D:Nat} (A:Option Addr) (n c:Nat) (es:List El) (w:World) (h:Pls w D A n es) (hcp:Cp A n c)
 (HC:∀ e ∈ es,∀ W,Below w.heap.size w W→Calls Tryz.prog 232 #[pE e] W fun x w'=>x=.returned (.bool (P e))∧Below W.heap.size W w') :
 Calls Tryz.prog 83 #[.slice A n c,.func (.func 232) #[] #[]] w fun x w'=>
  ∃ A1 n1 c1 A2 n2 c2,x=.returned (.tuple #[.slice A1 n1 c1,.slice A2 n2 c2])∧Hid (Pls w' D A1 n1 (es.takeWhile fun e=>!P e))∧Hid (Pls w' D A2 n2 (es.dropWhile fun e=>!P e))∧Cp A1 n1 c1∧Cp A2 n2 c2∧Hid (Below w.heap.size w w'):=by
 have hc:=hcp.1
 have HL:=hid h.len
 have hn:=h.2.2.1
 have H:=hid h
 have HCC:=hid HC
 clear h HC
 go_enter Tryz.func83,Tryz.ntmps83
 go_wp2
 go_loopw [10] (fun iv wr=>∃ (k:Nat),k≤n∧iv=.int .i64 (k:Int)∧(∀ j (hj:j < es.length),j < k→P es[j]=false)∧Below w.heap.size w wr) (fun iv _=>n - (intOf iv).toNat)
 case atStart=>exact ⟨0,Nat.zero_le _,rfl,fun j _ hj=>absurd hj (by omega),Below.refl _ _⟩
 case round=>
  obtain ⟨k,hk,rfl,hall0,hb0⟩:=hrel;have HA:=hid hall0;have HB:=hid hb0;have HW:=hid (H.out.below hb0);clear hall0 hb0
  by_cases hlt:k < n
  · have hks:k < es.length:=by rw [HL.out]; exact hlt
    obtain ⟨ad,rfl,hb,c0,hz⟩:=HW.out.at_ hlt;rw [qBG hks] at c0 hz;have HCk:=hid (HCC.out es[k] (List.getElem_mem hks));obtain ⟨T,y,hT⟩:=qKV es[k];rw [hT] at c0 HCk;have HP:=hid (show P es[k]=P es[k] from rfl);generalize hpk:P es[k]=pk at HCk HP;have HPK:=hid hpk;clear hpk hT
    cases pk
    · go_wp2_with (first
       | (go_at_call 232; refine (HCk.out _ HB.out).mono ?_; rintro e w1 ⟨rfl,hb1⟩)
       | fail)
      go_roundw
      case rel=>
       refine ⟨k+1,by omega,by go_num,fun j hj hjk=>?_,HB.out.trans (hb1.mono HB.out.size)⟩
       rcases Nat.lt_or_ge j k with h1 | h1
       · exact HA.out j hj h1
       · obtain rfl:j=k:=by omega
         exact HPK.out
      case measure=>simp [intOf]; omega
    · have HT:=hid (tw_at (p:=fun e=>!P e) hks (fun j hj hjk=>by simp [HA.out j hj hjk]) (by simp [HPK.out]))
      go_wp2_with (first
       | (go_at_call 232; refine (HCk.out _ HB.out).mono ?_; rintro e w1 ⟨rfl,hb1⟩)
       | fail)
      go_quiet (fail)
      go_wp2
      go_ret2
      rw [HT.out.1,HT.out.2];have HX:=HW.out.below hb1;exact ⟨_,_,_,_,_,_,rfl,hid ((HX.below ((Below.refl _ _).of_drewN _)).take hk),hid ((HX.below ((Below.refl _ _).of_drewN _)).drop hlt),Cp.some (by omega),Cp.some (by omega),hid ((HB.out.trans (hb1.mono HB.out.size)).of_drewN _)⟩
  · have hke:k=n:=by omega
    subst hke;have HT:=hid (tw_none (p:=fun e=>!P e) (l:=es) (fun j hj=>by simp [HA.out j hj (by rw [HL.out] at hj; exact hj)]))
    go_wp2
    go_ret2
    rw [HT.out.1,HT.out.2];exact ⟨_,_,_,_,_,_,rfl,HW,hid (HW.out.nil _),hcp,Cp.nil,HB⟩
def cls (s:ByteArray) (e:El):Bool:=!e.2 && (!e.1.2.1 && inS8 s e.1.1.toNat)
def rowB:ByteArray:=⟨#[35,48,49,50,51,52,53,54,55,56,57,64,44,46]⟩
theorem lo_row:∀ b ∈ bts rowB,b < 128:=qBY (by decide)
theorem qD4 {r:Int} (h:isZ r=true):∃ x:Nat,r=(x:Int)∧x≤1114111:=by
 have:=qAS.1 h
 exact ⟨r.toNat,by omega,by omega⟩
theorem okB_iff16 {x:Nat}:okB x=true↔((48≤x∧x≤57)∨x=35∨x=64∨x=44∨x=46):=by
 simp only [okB,dg,h35,a64,Bool.or_eq_true,Bool.and_eq_true,decide_eq_true_iff,beq_iff_eq]
 omega
theorem cls_row {e:El} (h:isZ e.1.1=true):cls rowB e=bdy e:=by
 obtain ⟨x,hx,-⟩:=qD4 h
 rw [cls,bdy,hx,rowB,in_okB,Int.toNat_natCast]
 congr 2
 rw [Bool.eq_iff_iff,bdC,decide_eq_true_iff]
 rw [okB_iff16]
 omega
theorem qIM (c:UInt8) {e:El} (h:isZ e.1.1=true):cls ⟨#[c]⟩ e=plE (c.toNat:Int) e:=by
 obtain ⟨x,hx,-⟩:=qD4 h
 rw [cls,plE,hx,in_one,Int.toNat_natCast]
 congr 2
 rw [Bool.eq_iff_iff,beq_iff_eq,decide_eq_true_iff]
 omega
set_option maxHeartbeats 1000000 in
theorem spl_c (x:Nat) (a:Int) (q:Bool) (s:ByteArray) (w:World) (ha:∀ b ∈ bts s,b < 128) (hs:s.size≤1000) (hx:x≤1114111) :
 Calls Tryz.prog 123 #[.agg #[.int .i32 (x:Int),.bool q,.int .i64 a],.string s] w fun e w'=>e=.returned (.bool (!q && inS8 s x))∧Below w.heap.size w w':=by
 have HC:=hid (fun W=>qFC s x W ha hx hs)
 have HB0:=hid (qA2 w (.cells #[.int .i32 (x:Int),.bool q,.int .i64 a] 147))
 clear ha
 cases q
 · go_enter Tryz.func123,Tryz.ntmps123
   go_wp2_with (first
    | (go_at_call 173; refine (HC.out _).mono ?_; rintro e w' ⟨rfl,hb⟩)
    | fail)
   go_ret
   exact ⟨rfl,HB0.out.trans (hb.mono HB0.out.size)⟩
 · go_enter Tryz.func123,Tryz.ntmps123
   go_wp2
   go_ret
   exact ⟨rfl,HB0.out⟩
set_option maxHeartbeats 1000000 in
theorem ppl_c (r a:Int) (s:ByteArray) (w:World) :
 Calls Tryz.prog 312 #[.agg #[.int .i32 r,.int .i64 a],.string s] w fun e w'=>e=.returned (.bool false)∧Below w.heap.size w w':=by
 go_enter Tryz.func312,Tryz.ntmps312
 go_wp2
 go_ret
 exact ⟨rfl,by go_grown⟩
theorem qKX (r a:Int) (q:Bool) (w:World) :
 Calls Tryz.prog 310 #[.agg #[.int .i32 r,.bool q,.int .i64 a]] w fun e w'=>e=.returned (.int .i64 a)∧Below w.heap.size w w':=by
 go_enter Tryz.func310,Tryz.ntmps310
 go_wp2
 go_ret
 exact ⟨rfl,by go_grown⟩
theorem pplace_c (r a:Int) (w:World) :
 Calls Tryz.prog 311 #[.agg #[.int .i32 r,.int .i64 a]] w fun e w'=>e=.returned (.int .i64 a)∧Below w.heap.size w w':=by
 go_enter Tryz.func311,Tryz.ntmps311
 go_wp2
 go_ret
 exact ⟨rfl,by go_grown⟩
set_option maxHeartbeats 1000000 in
theorem of16_c (s:ByteArray) (w:World):Calls Tryz.prog 84 #[.string s] w fun e w'=>∃ B,e=.returned (.func (.func 124) #[] #[.pointer (some ⟨B,0,none⟩)])∧B < w'.heap.size∧Hid (w'.cell? ⟨B,0,none⟩=some (.string s))∧Below w.heap.size w w':=by
 go_enter Tryz.func84,Tryz.ntmps84
 go_wp2
 go_ret
 exact ⟨_,rfl,by simp,hid (by simp),(Below.refl _ w).alloc (Nat.le_refl _) _⟩
set_option maxHeartbeats 1000000 in
theorem of1_c (e:El) (s:ByteArray) (B:Nat) (w:World) (hz:isZ e.1.1=true) (ha:∀ b ∈ bts s,b < 128) (hs:s.size≤1000) (hc:w.cell? ⟨B,0,none⟩=some (.string s)) :
 Calls Tryz.prog 124 #[pE e,.pointer (some ⟨B,0,none⟩)] w fun x w'=>x=.returned (.bool (cls s e))∧Below w.heap.size w w':=by
 obtain ⟨⟨r,q,a⟩,p⟩:=e
 obtain ⟨x,rfl,hx⟩:=qD4 hz
 clear hz
 cases p
 · have HC:=hid (fun W=>spl_c x a q s W ha hs hx)
   have HP:Hid (cls s (((x:Int),q,a),false)=(!q && inS8 s x)):=hid rfl;rw [pE_s,HP.out];clear ha HP;generalize (!q && inS8 s x)=y at *
   go_enter Tryz.func124,Tryz.ntmps124
   go_wp2_with (first
    | (go_at_call 123; refine (HC.out _).mono ?_; rintro e w' ⟨rfl,hb⟩)
    | fail)
   go_ret
   exact ⟨rfl,hb⟩
 · have HP:Hid (cls s (((x:Int),q,a),true)=false):=hid rfl
   rw [pE_p,HP.out];clear ha HP
   go_enter Tryz.func124,Tryz.ntmps124
   go_wp2_with (first
    | (go_at_call 312; refine (ppl_c _ _ _ _).mono ?_; rintro e w' ⟨rfl,hb⟩)
    | fail)
   go_ret
   exact ⟨rfl,hb⟩
set_option maxHeartbeats 1000000 in
theorem row1_c (e:El) (w:World) (hz:isZ e.1.1=true) :
 Calls Tryz.prog 232 #[pE e] w fun x w'=>x=.returned (.bool (!cls rowB e))∧Below w.heap.size w w':=by
 obtain ⟨⟨r,q,a⟩,p⟩:=e
 obtain ⟨x,rfl,hx⟩:=qD4 hz
 clear hz
 cases p
 · have HC:=hid (fun W=>spl_c x a q rowB W lo_row (by decide) hx)
   have HP:Hid (cls rowB (((x:Int),q,a),false)=(!q && inS8 rowB x)):=hid rfl;rw [pE_s,HP.out];clear HP;generalize (!q && inS8 rowB x)=y at *;unfold rowB at HC
   go_enter Tryz.func232,Tryz.ntmps232
   go_wp2_with (first
    | (go_at_call 123; refine (HC.out _).mono ?_; rintro e w' ⟨rfl,hb⟩)
    | fail)
   go_ret
   exact ⟨rfl,hb⟩
 · have HP:Hid (cls rowB (((x:Int),q,a),true)=false):=hid rfl
   rw [pE_p,HP.out];clear HP
   go_enter Tryz.func232,Tryz.ntmps232
   go_wp2_with (first
    | (go_at_call 312; refine (ppl_c _ _ _ _).mono ?_; rintro e w' ⟨rfl,hb⟩)
    | fail)
   go_ret
   exact ⟨rfl,hb⟩
theorem qKY (s:ByteArray) (P:El→Bool) (B:Nat) {D:Nat} (A:Option Addr) (n c:Nat) (es:List El) (w:World) (h:Pls w D A n es) (hc:Cp A n c) (ha:∀ b ∈ bts s,b < 128) (hs:s.size≤1000) (hP:∀ e ∈ es,cls s e=P e)
 (hB:B < w.heap.size) (hb:w.cell? ⟨B,0,none⟩=some (.string s)) :
 Calls Tryz.prog 83 #[.slice A n c,.func (.func 124) #[] #[.pointer (some ⟨B,0,none⟩)]] w fun x w'=>
  ∃ A1 n1 c1 A2 n2 c2,x=.returned (.tuple #[.slice A1 n1 c1,.slice A2 n2 c2])∧Hid (Pls w' D A1 n1 (es.takeWhile fun e=>!P e))∧Hid (Pls w' D A2 n2 (es.dropWhile fun e=>!P e))∧Cp A1 n1 c1∧Cp A2 n2 c2∧Hid (Below w.heap.size w w'):=
 upToOf_h B P A n c es w h hc fun e he W hW=>by rw [← hP e he]; exact of1_c e s B W (h.z e he) ha hs ((hW.cell (p:=⟨B,0,none⟩) hB).trans hb)
theorem upToRow_c {D:Nat} (A:Option Addr) (n c:Nat) (es:List El) (w:World) (h:Pls w D A n es) (hc:Cp A n c) :
 Calls Tryz.prog 83 #[.slice A n c,.func (.func 232) #[] #[]] w fun x w'=>
  ∃ A1 n1 c1 A2 n2 c2,x=.returned (.tuple #[.slice A1 n1 c1,.slice A2 n2 c2])∧Hid (Pls w' D A2 n2 (es.dropWhile bdy))∧Cp A2 n2 c2∧Hid (Below w.heap.size w w'):=by
 refine (upToRow_h (fun e=>!bdy e) A n c es w h hc fun e he W _=>by
  have:=row1_c e W (h.z e he)
  rwa [cls_row (h.z e he)] at this).mono ?_
 rintro e w' ⟨A1,n1,c1,A2,n2,c2,rfl,-,h2,-,hc2,hb⟩
 simp only [Bool.not_not] at h2
 exact ⟨_,_,_,_,_,_,rfl,h2,hc2,hb⟩
set_option maxHeartbeats 1000000 in
theorem qFV {D:Nat} (A:Option Addr) (n c:Nat) (es:List El) (w:World) (h:Pls w D A n es) (hc:Cp A n c) :
 Calls Tryz.prog 174 #[.slice A n c] w fun x w'=>∃ A2 n2 c2,x=.returned (.slice A2 n2 c2)∧Hid (Pls w' D A2 n2 (es.dropWhile bdy))∧Cp A2 n2 c2∧Hid (Below w.heap.size w w'):=by
 have HC:=hid (upToRow_c A n c es w h hc)
 clear h
 go_enter Tryz.func174,Tryz.ntmps174
 go_wp2_with (first
  | (go_at_call 83; refine HC.out.mono ?_; rintro e w' ⟨A1,n1,c1,A2,n2,c2,rfl,h2,hc2,hb⟩)
  | fail)
 go_ret
 exact ⟨_,_,_,rfl,h2,hc2,hb⟩
def hdE (P:El→Bool) (es:List El):Bool:=(es.take 1).any P
set_option maxHeartbeats 1000000 in
theorem begins_c (s:ByteArray) (P:El→Bool) {D:Nat} (A:Option Addr) (n c:Nat) (es:List El) (w:World) (h:Pls w D A n es) (ha:∀ b ∈ bts s,b < 128) (hs:s.size≤1000) (hP:∀ e ∈ es,cls s e=P e) :
 Calls Tryz.prog 175 #[.slice A n c,.string s] w fun x w'=>x=.returned (.bool (hdE P es))∧Below w.heap.size w w':=by
 have hl:=h.len
 cases es with
 | nil=>
  obtain rfl:n=0:=hl.symm;clear h ha hP
  go_enter Tryz.func175,Tryz.ntmps175
  go_wp2
  go_ret
  exact ⟨rfl,Below.refl _ _⟩
 | cons e es=>
  have hn0:0 < n:=by rw [← hl]; simp
  obtain ⟨ad,rfl,hb,c0,hz⟩:=h.at_ hn0;have g1:decide ((0:Int) < (n:Int))=true:=decide_eq_true (by omega);have e0:el4 (e :: es) 0=e:=rfl;rw [e0] at c0 hz
  change w.cell? ad=_ at c0
  have HPe:Hid (hdE P (e :: es)=P e):=hid (by simp [hdE]);rw [HPe.out,← hP e (by simp)];clear HPe hP h hl e0;obtain ⟨⟨r,q,a⟩,p⟩:=e;obtain ⟨x,rfl,hx⟩:=qD4 hz;clear hz
  cases p
  · have HC:=hid (fun W=>spl_c x a q s W ha hs hx)
    have HP:Hid (cls s (((x:Int),q,a),false)=(!q && inS8 s x)):=hid rfl;rw [pE_s] at c0;rw [HP.out];clear ha HP;generalize (!q && inS8 s x)=y at *
    go_enter Tryz.func175,Tryz.ntmps175
    go_wp2_with (first
     | (go_at_call 123; refine (HC.out _).mono ?_; rintro e w' ⟨rfl,hb⟩)
     | fail)
    go_ret
    exact ⟨rfl,hb⟩
  · have HP:Hid (cls s (((x:Int),q,a),true)=false):=hid rfl
    rw [pE_p] at c0;rw [HP.out];clear ha HP
    go_enter Tryz.func175,Tryz.ntmps175
    go_wp2_with (first
     | (go_at_call 312; refine (ppl_c _ _ _ _).mono ?_; rintro e w' ⟨rfl,hb⟩)
     | fail)
    go_ret
    exact ⟨rfl,hb⟩
theorem Pls.tail {w:World} {D:Nat} {ad:Addr} {n:Nat} {e:El} {es:List El} (h:Pls w D (some ad) n (e :: es)):Pls w D (some (ad.add 1)) (n - 1) es∧(n=1→es=[]):=by
 have hl:=h.len
 refine ⟨?_,fun h1=>?_⟩
 · rcases Nat.lt_or_ge 1 n with h1 | h1
   · exact h.drop h1
   · have:es=[]:=by simp at hl; exact List.eq_nil_of_length_eq_zero (by omega)
     subst this;rw [show n - 1=0 by omega];exact h.nil _
 · simp at hl; exact List.eq_nil_of_length_eq_zero (by omega)
theorem qGJ {w:World} {D:Nat} {A:Option Addr} {n:Nat} {e:El} {es:List El} (h:Pls w D A n (e :: es)):∃ ad,A=some ad∧0 < n:=by
 have hl:=h.len
 have h0:0 < n:=by rw [← hl]; simp
 obtain ⟨ad,e,_⟩:=h.at_ h0
 exact ⟨ad,e,h0⟩
def bh2 (L:List El):List El:=match L with
 | []=>[]
 | f :: c=>if plE 43 f then c.dropWhile bdy else (f :: c).dropWhile bdy
theorem bhd_nil {es:List El} (h:es.dropWhile bdy=[]):bhd es=[]:=by unfold bhd; rw [h]
theorem bhd_no {es L:List El} {e:El} (h:es.dropWhile bdy=e :: L) (h9:plE 69 e=false):bhd es=e :: L:=by
 unfold bhd; rw [h]; dsimp only; rw [h9]; rfl
theorem bhd_yes {es L:List El} {e:El} (h:es.dropWhile bdy=e :: L) (h9:plE 69 e=true):bhd es=bh2 L:=by
 unfold bhd; rw [h]; dsimp only; rw [h9]; rfl
theorem bh2_no {L:List El} (h:hdE (plE 43) L=false):bh2 L=L.dropWhile bdy:=by
 cases L with
 | nil=>rfl
 | cons f c=>
  have:plE 43 f=false:=by simpa [hdE] using h
  show (if plE 43 f then _ else _)=_
  rw [this]; rfl
theorem bh2_yes {L:List El} {f:El} (h:plE 43 f=true):bh2 (f :: L)=L.dropWhile bdy:=by
 show (if plE 43 f then _ else _)=_
 rw [h]; rfl
theorem sl1_el (ad:Addr) (n c:Nat) (h0:0 < n) (_hc:n≤c):∃ a',(∀ W,(Instr.slice 75 (.slice (some ad) n c) (some (.int .i64 1)) none none).run Tryz.prog W=.ok (.slice (some a') (n - 1) (c - 1)) W)∧(c=1∨a'=ad.add 1):=by
 refine ⟨if c=1 then ad else ad.add 1,fun W=>?_,?_⟩
 · rw [run_slice_l W _ (some ad) n c (by rw [Tryz.underlying75]; kernel_rfl) .i64 1 (by omega) (by omega)]
   have e:(sizeOf (Tryz.prog.elem 75)).run Tryz.prog W=.ok 1 W:=by kernel_rfl
   rw [e]
   show Result.ok (sliced (some ad) 1 n c 1) W=_
   unfold sliced
   by_cases h:c=1
   · rw [if_pos h,if_pos h]
   · rw [if_neg h,if_neg h]; rfl
 · by_cases h:c=1
   · exact .inl h
   · rw [if_neg h]; exact .inr rfl
set_option maxHeartbeats 2000000 in
theorem behindNum_c {D:Nat} (A:Option Addr) (n c:Nat) (es:List El) (w:World) (h:Pls w D A n es) (hc:Cp A n c) :
 Calls Tryz.prog 125 #[.slice A n c] w fun x w'=>∃ A2 n2 c2,x=.returned (.slice A2 n2 c2)∧Hid (Pls w' D A2 n2 (bhd es))∧Cp A2 n2 c2∧Hid (Below w.heap.size w w'):=by
 have HR:=hid (qFV A n c es w h hc)
 have HZ:=hid h.z
 clear h
 generalize hX:bhd es=X
 have HZ1:Hid (∀ e ∈ es.dropWhile bdy,isZ e.1.1=true):=hid fun e he=>HZ.out e ((List.dropWhile_suffix _).subset he)
 generalize hL:es.dropWhile bdy=L1 at HR HZ1
 have HBE:=hid (fun (A1:Option Addr) (n1 c1:Nat) (W:World) (h:Pls W D A1 n1 L1)=>begins_c ⟨#[69]⟩ (plE 69) A1 n1 c1 L1 W h (qBY (by decide)) (by decide) fun e he=>qIM 69 (HZ1.out e he))
 have HBP:=hid (fun (A1:Option Addr) (n1 c1:Nat) (L:List El) (W:World) (h:Pls W D A1 n1 L)=>begins_c ⟨#[43]⟩ (plE 43) A1 n1 c1 L W h (qBY (by decide)) (by decide) fun e he=>qIM 43 (h.z e he))
 clear HZ HZ1
 cases L1 with
 | nil=>
  have hE:hdE (plE 69) []=false:=rfl;rw [hE] at HBE;rw [bhd_nil hL] at hX;subst hX;clear hE hL
  go_enter Tryz.func125,Tryz.ntmps125
  go_wp2_with (first
   | (go_at_call 174; refine HR.out.mono ?_; rintro e w1 ⟨A1,n1,c1,rfl,h1,hc1,hb1⟩)
   | (go_at_call 175; refine (HBE.out _ _ _ _ h1.out).mono ?_; rintro e w2 ⟨rfl,hb2⟩)
   | fail)
  go_ret
  exact ⟨_,_,_,rfl,hid (h1.out.below hb2),hc1,hid (hb1.out.trans (hb2.mono hb1.out.size))⟩
 | cons e L2=>
  have hE:hdE (plE 69) (e :: L2)=plE 69 e:=by simp [hdE]
  rw [hE] at HBE;clear hE
  cases h69:plE 69 e with
  | false=>
   rw [h69] at HBE;rw [bhd_no hL h69] at hX;subst hX;clear h69 hL
   go_enter Tryz.func125,Tryz.ntmps125
   go_wp2_with (first
    | (go_at_call 174; refine HR.out.mono ?_; rintro e w1 ⟨A1,n1,c1,rfl,h1,hc1,hb1⟩)
    | (go_at_call 175; refine (HBE.out _ _ _ _ h1.out).mono ?_; rintro e w2 ⟨rfl,hb2⟩)
    | fail)
   go_ret
   exact ⟨_,_,_,rfl,hid (h1.out.below hb2),hc1,hid (hb1.out.trans (hb2.mono hb1.out.size))⟩
  | true=>
   rw [h69] at HBE;rw [bhd_yes hL h69] at hX;clear h69 hL
   go_enter Tryz.func125,Tryz.ntmps125
   go_upto_region 4 with (first
    | (go_at_call 174; refine HR.out.mono ?_; rintro e w1 ⟨A1,n1,c1,rfl,h1,hc1,hb1⟩)
    | (go_at_call 175; refine (HBE.out _ _ _ _ h1.out).mono ?_; rintro e w2 ⟨rfl,hb2⟩)
    | fail)
   obtain ⟨ad,rfl,h0⟩:=qGJ h1.out;obtain ⟨t1,t2⟩:=(h1.out.below hb2).tail;have HBW:=hid (hb1.out.trans (hb2.mono hb1.out.size));have HT:=hid t1;obtain ⟨a',HS,HA'⟩:=sl1_el ad n1 c1 h0 hc1.1;have HT':Hid (Pls w2 D (some a') (n1 - 1) L2):=hid (by
    rcases HA' with h | rfl
    · have:=hc1.1
      rw [t2 (by omega),show n1 - 1=0 by omega]; exact t1.nil _
    · exact t1)
   have hc1':Cp (some a') (n1 - 1) (c1 - 1):=Cp.some (by have:=hc1.1; omega);clear HA' t1 t2;generalize n1 - 1=n2 at *;generalize c1 - 1=c2 at *
   cases h43:hdE (plE 43) L2 with
   | false=>
    rw [bh2_no h43] at hX;subst hX;have HBP2:=hid (HBP.out (some a') n2 c2 L2 w2 HT'.out);rw [h43] at HBP2;clear h43 HBP;have HR2:=hid (fun W (hb:Below w2.heap.size w2 W)=>qFV (some a') n2 c2 L2 W (HT'.out.below hb) hc1')
    go_wp2_with (first
     | (go_at_call 175; refine HBP2.out.mono ?_; rintro e w3 ⟨rfl,hb3⟩)
     | (go_at_call 174; refine (HR2.out _ hb3).mono ?_; rintro e w4 ⟨A5,n5,c5,rfl,h5,hc5,hb5⟩)
     | fail)
    go_ret
    exact ⟨_,_,_,rfl,h5,hc5,hid (HBW.out.trans ((hb3.trans (hb5.out.mono hb3.size)).mono HBW.out.size))⟩
   | true=>
    cases L2 with
    | nil=>exact absurd h43 (by decide)
    | cons f L3=>
     have hf:plE 43 f=true:=by simpa [hdE] using h43
     rw [bh2_yes hf] at hX;subst hX;have HBP2:=hid (HBP.out (some a') n2 c2 _ w2 HT'.out);rw [h43] at HBP2;clear h43 HBP hf;obtain ⟨-,-,hz2⟩:=qGJ HT'.out;obtain ⟨a3,HS3,HA3⟩:=sl1_el a' n2 c2 hz2 hc1'.1;obtain ⟨t1,t2⟩:=HT'.out.tail;have HT3:Hid (Pls w2 D (some a3) (n2 - 1) L3):=hid (by
      rcases HA3 with h | rfl
      · have:=hc1'.1
        rw [t2 (by omega),show n2 - 1=0 by omega]; exact t1.nil _
      · exact t1)
     have hc3:Cp (some a3) (n2 - 1) (c2 - 1):=Cp.some (by have:=hc1'.1; omega);clear HA3 t1 t2;generalize n2 - 1=n3 at *;generalize c2 - 1=c3 at *;have HR2:=hid (fun W (hb:Below w2.heap.size w2 W)=>qFV (some a3) n3 c3 L3 W (HT3.out.below hb) hc3)
     go_wp2_with (first
      | (go_at_call 175; refine HBP2.out.mono ?_; rintro e w3 ⟨rfl,hb3⟩)
      | (go_at_call 174; refine (HR2.out _ hb3).mono ?_; rintro e w4 ⟨A5,n5,c5,rfl,h5,hc5,hb5⟩)
      | fail)
     go_ret
     exact ⟨_,_,_,rfl,h5,hc5,hid (HBW.out.trans ((hb3.trans (hb5.out.mono hb3.size)).mono HBW.out.size))⟩
structure HfM (w:World) (D:Nat) (v:Value) (b:Int) (l:Bool) (es:List El):Prop where
 f:∃ A1 n1 c1 A2 n2 c2 A3 n3 c3,v=.agg #[.int .i64 b,.bool l,.slice A1 n1 c1,.slice A2 n2 c2,.slice A3 n3 c3]∧Pls w D A1 n1 (hpre es)∧Pls w D A2 n2 (hnum es)∧Pls w D A3 n3 (hsuf es)∧Cp A1 n1 c1∧Cp A2 n2 c2∧Cp A3 n3 c3
theorem HfM.below {w w':World} {D:Nat} {v:Value} {b:Int} {l:Bool} {es:List El} (h:HfM w D v b l es) (hb:Below w.heap.size w w'):HfM w' D v b l es:=by
 obtain ⟨A1,n1,c1,A2,n2,c2,A3,n3,c3,e,h1,h2,h3,l1,l2,l3⟩:=h
 exact ⟨A1,n1,c1,A2,n2,c2,A3,n3,c3,e,h1.below hb,h2.below hb,h3.below hb,l1,l2,l3⟩
structure HCX (w W:World) (g:Nat) (b:Int) (l:Bool) (x y z:Value):Prop where
 bb:Below g w W
 bx:BX W g #[.int .i64 b,.bool l,x,y,z] 77
 br:BX W (g+1) #[.int .i64 0,.bool false,.slice none 0 0,.slice none 0 0,.slice none 0 0] 77
section
variable {w W W':World} {g D:Nat} {b:Int} {l:Bool} {x y z v:Value} {A:Option Addr} {n:Nat} {es:List El}
theorem HCX.new (w:World) (b:Int) (l:Bool) (x y z:Value):HCX w ((w.alloc (.cells #[.int .i64 b,.bool l,x,y,z] 77)).alloc (.cells #[.int .i64 0,.bool false,.slice none 0 0,.slice none 0 0,.slice none 0 0] 77)) w.heap.size b l x y z:=
 ⟨((Below.refl _ _).alloc (Nat.le_refl _) _).alloc (by simp) _,(BX.new _ _ _).alloc _,by have:=BX.new (w.alloc (.cells #[.int .i64 b,.bool l,x,y,z] 77)) #[.int .i64 0,.bool false,.slice none 0 0,.slice none 0 0,.slice none 0 0] 77; simpa using this⟩
theorem HCX.below (h:HCX w W g b l x y z) (hb:Below W.heap.size W W'):HCX w W' g b l x y z:=
 ⟨h.bb.trans (hb.mono (Nat.le_of_lt h.bx.lt)),h.bx.below hb h.bx.lt,h.br.below hb h.br.lt⟩
theorem HCX.set2 (h:HCX w W g b l x y z) (v:Value):HCX w (W.setCell ⟨g,2,none⟩ v) g b l v y z:=
 ⟨h.bb.setCell (p:=⟨g,2,none⟩) (Nat.le_refl _) v,heap_setCell_same W g 2 _ _ v h.bx,(heap_setCell_other W ⟨g,2,none⟩ (g+1) v (by show g+1≠g; omega)).trans h.br⟩
theorem HCX.set3 (h:HCX w W g b l x y z) (v:Value):HCX w (W.setCell ⟨g,3,none⟩ v) g b l x v z:=
 ⟨h.bb.setCell (p:=⟨g,3,none⟩) (Nat.le_refl _) v,heap_setCell_same W g 3 _ _ v h.bx,(heap_setCell_other W ⟨g,3,none⟩ (g+1) v (by show g+1≠g; omega)).trans h.br⟩
theorem HCX.set4 (h:HCX w W g b l x y z) (v:Value):HCX w (W.setCell ⟨g,4,none⟩ v) g b l x y v:=
 ⟨h.bb.setCell (p:=⟨g,4,none⟩) (Nat.le_refl _) v,heap_setCell_same W g 4 _ _ v h.bx,(heap_setCell_other W ⟨g,4,none⟩ (g+1) v (by show g+1≠g; omega)).trans h.br⟩
theorem HCX.pls (_h:HCX w W g b l x y z) (hp:Pls W D A n es) (hD:D≤g) (j:Nat) (v:Value):Pls (W.setCell ⟨g,j,none⟩ v) D A n es:=
 hp.belowD ((Below.refl D W).setCell (p:=⟨g,j,none⟩) hD v) (Nat.le_refl _)
end
set_option maxHeartbeats 2000000 in
theorem cut16_c {D:Nat} (b:Int) (l:Bool) (x y z:Value) (A:Option Addr) (n c:Nat) (es:List El) (w:World) (h:Pls w D A n es) (hc:Cp A n c) :
 Calls Tryz.prog 85 #[.agg #[.int .i64 b,.bool l,x,y,z],.slice A n c] w fun e w'=>∃ v,e=.returned v∧HfM w' D v b l es∧Hid (Below w.heap.size w w'):=by
 have HX:=hid (HCX.new w b l x y z)
 have H:=hid (h.belowD HX.out.bb h.2.1)
 have HZ:=hid h.z
 have hDg:D≤w.heap.size:=h.2.1
 clear h
 go_enter Tryz.func85,Tryz.ntmps85
 go_upto_region 2 with fail
 generalize (w.alloc (.cells #[.int .i64 b,.bool l,x,y,z] 77)).alloc (.cells #[.int .i64 0,.bool false,.slice none 0 0,.slice none 0 0,.slice none 0 0] 77)=W0 at *
 generalize hg:w.heap.size=g at *
 have HGe:=hid hg
 clear hg
 go_upto_region 3 with (first
  | (go_at_call 84; refine (of16_c rowB _).mono ?_; rintro e w1 ⟨B,rfl,hB,hS,hb1⟩)
  | (go_at_call 83; refine (qKY rowB bdy B A n c es w1 (H.out.below hb1) hc lo_row (by decide) (fun e he=>cls_row (HZ.out e he)) hB hS.out).mono ?_; rintro e w2 ⟨A1,n1,c1,A2,n2,c2,rfl,h1,h2,hc1,hc2,hb2⟩; have HX2:=hid (HX.out.below (hb1.trans (hb2.out.mono hb1.size))); have d2:=HX2.out.bx.c 2; have f2:=HX2.out.bx.fr 2)
  | fail)
 have HX3:=hid (HX2.out.set2 (.slice A1 n1 c1))
 have HP1:=hid (HX2.out.pls h1.out (HGe.out ▸ hDg) 2 (.slice A1 n1 c1))
 have HP2:=hid (HX2.out.pls h2.out (HGe.out ▸ hDg) 2 (.slice A1 n1 c1))
 generalize w2.setCell ⟨g,2,none⟩ (.slice A1 n1 c1)=W3 at *
 clear d2 f2 h1 h2 hb1 hb2 HX2 hS hB HX H
 go_upto_region 4 with (first
  | (go_at_call 125; refine (behindNum_c A2 n2 c2 _ W3 HP2.out hc2).mono ?_; rintro e w3 ⟨A3,n3,c3,rfl,h3,hc3,hb3⟩; have HX4:=hid (HX3.out.below hb3.out); have d4:=HX4.out.bx.c 4; have f4:=HX4.out.bx.fr 4)
  | fail)
 have HX5:=hid (HX4.out.set4 (.slice A3 n3 c3))
 have HP3:=hid (HX4.out.pls h3.out (HGe.out ▸ hDg) 4 (.slice A3 n3 c3))
 have HP4:=hid (HX4.out.pls (HP1.out.below hb3.out) (HGe.out ▸ hDg) 4 (.slice A3 n3 c3))
 have HP5:=hid (HX4.out.pls (HP2.out.below hb3.out) (HGe.out ▸ hDg) 4 (.slice A3 n3 c3))
 generalize w3.setCell ⟨g,4,none⟩ (.slice A3 n3 c3)=W5 at *
 clear d4 f4 h3 hb3 HX4 HP1 HP2 HX3
 have hlen:n3≤n2:=by
  rw [← HP3.out.len,← HP5.out.len];exact (qH1 _).length_le
 have hn2:=HP5.out.2.2.1
 obtain ⟨k,rfl⟩:∃ k,n2=k+n3:=⟨n2 - n3,by omega⟩
 have gk:IntKind.i64.wrap (((k+n3:Nat):Int) - (n3:Int))=(k:Int):=by
  rw [show ((k+n3:Nat):Int) - (n3:Int)=(k:Int) by omega];exact wrap_small _ (by omega) (by omega)
 have hc2l:=hc2.1
 have d4:=HX5.out.bx.c 4
 have f3:=HX5.out.bx.fr 3
 have d3:=HX5.out.bx.c 3
 go_upto_region 5 with fail
 have HX6:=hid (HX5.out.set3 (.slice A2 k c2))
 have HPn:Hid (Pls (W5.setCell ⟨g,3,none⟩ (.slice A2 k c2)) D A2 k (hnum es)):=hid (by
  have h1:=(HX5.out.pls HP5.out (HGe.out ▸ hDg) 3 (.slice A2 k c2)).take (k:=k) (by omega);have e:hnum es=(es.dropWhile fun e=>!bdy e).take k:=by
   rw [hnum,hrst]
   congr 1
   have e1:=HP5.out.len;have e2:=HP3.out.len;rw [hsuf,hrst,e1,e2]; omega
  rw [e]; exact h1)
 have HPs:=hid (HX5.out.pls HP3.out (HGe.out ▸ hDg) 3 (.slice A2 k c2))
 have HPp:=hid (HX5.out.pls HP4.out (HGe.out ▸ hDg) 3 (.slice A2 k c2))
 generalize W5.setCell ⟨g,3,none⟩ (.slice A2 k c2)=W6 at *
 clear d3 d4 f3 HP3 HP4 HP5 HX5 gk hn2
 have d0:=HX6.out.bx.c 0
 have d1:=HX6.out.bx.c 1
 have d2:=HX6.out.bx.c 2
 have d3:=HX6.out.bx.c 3
 have d4:=HX6.out.bx.c 4
 have r0:=HX6.out.br.c 0
 have r1:=HX6.out.br.c 1
 have r2:=HX6.out.br.c 2
 have r3:=HX6.out.br.c 3
 have r4:=HX6.out.br.c 4
 have q0:=HX6.out.br.fr 0
 have q1:=HX6.out.br.fr 1
 have q2:=HX6.out.br.fr 2
 have q3:=HX6.out.br.fr 3
 have q4:=HX6.out.br.fr 4
 go_wp2
 have hb7:Below g W6 (((((W6.setCell ⟨g+1,0,none⟩ (.int .i64 b)).setCell ⟨g+1,1,none⟩ (.bool l)).setCell ⟨g+1,2,none⟩ (.slice A1 n1 c1)).setCell ⟨g+1,3,none⟩ (.slice A2 k c2)).setCell ⟨g+1,4,none⟩ (.slice A3 n3 c3)):=
  (((((Below.refl g W6).setCell (p:=⟨g+1,0,none⟩) (Nat.le_succ g) _).setCell (p:=⟨g+1,1,none⟩) (Nat.le_succ g) _).setCell (p:=⟨g+1,2,none⟩) (Nat.le_succ g) _).setCell (p:=⟨g+1,3,none⟩) (Nat.le_succ g) _).setCell (p:=⟨g+1,4,none⟩) (Nat.le_succ g) _
 have HB7:=hid hb7
 clear hb7
 refine bodyPost_ret (v:=.agg #[.int .i64 b,.bool l,.slice A1 n1 c1,.slice A2 k c2,.slice A3 n3 c3]) (by simp [results,Tryz.results85,go_sem,r0,r1,r2,r3,r4]) rfl ⟨_,rfl,?_,hid (HGe.out ▸ HX6.out.bb.trans HB7.out)⟩
 have hD:D≤g:=HGe.out ▸ hDg
 exact ⟨_,_,_,_,_,_,_,_,_,rfl,HPp.out.belowD HB7.out hD,HPn.out.belowD HB7.out hD,HPs.out.belowD HB7.out hD,hc1,⟨by have:=hc2.1; omega,hc2.2⟩,hc3⟩
def elsQ (ts:List Tok):List El × Int × Int:=match elsB ts with
 | none=>(elsL ts,0,0)
 | some a=>([],7,a)
theorem elsQ_no {ts:List Tok} (h:elsB ts=none):elsQ ts=(elsL ts,0,0):=by unfold elsQ; rw [h]
theorem elsQ_yes {ts:List Tok} {a:Int} (h:elsB ts=some a):elsQ ts=([],7,a):=by unfold elsQ; rw [h]
theorem Tks.tail {w:World} {ad:Addr} {n:Nat} {t:Tok} {l:List Tok} (h:Tks w (some ad) n (t :: l)):Tks w (some (ad.add 3)) (n - 1) l∧(n=1→l=[]):=by
 have hl:=h.len
 simp only [List.length_cons] at hl
 refine ⟨?_,fun h1=>List.eq_nil_of_length_eq_zero (by omega)⟩
 obtain ⟨ad',e,hb,hc⟩:=h.1.2 (by omega)
 obtain rfl:=Option.some.inj e
 refine ⟨⟨by rw [qEH]; omega,fun _=>⟨ad.add 3,rfl,by rw [qAB]; exact hb,fun j u hu=>?_⟩⟩,by have:=h.2.1; omega,fun x hx=>h.2.2 x (List.mem_cons_of_mem _ hx)⟩
 rw [qCM]
 refine hc (3+j) u ?_
 rw [qF1,List.getElem?_append_right (by show 3≤3+j; omega)]
 show (qCL l)[3+j - 3]? = some u
 rw [show 3+j - 3=j by omega]; exact hu
theorem tks_none {w:World} {A:Option Addr} {n:Nat} {t:Tok} {l:List Tok} (h:Tks w A n (t :: l)):∃ ad,A=some ad∧0 < n∧ad.block < w.heap.size∧w.cell? ad=some (.int .i32 t.1)∧w.cell? ⟨ad.block,ad.off+1,none⟩=some (.bool t.2.1)∧w.cell? ⟨ad.block,ad.off+2,none⟩=some (.int .i64 t.2.2):=by
 have hl:=h.len
 have h0:0 < n:=by rw [← hl]; simp
 obtain ⟨ad,e,hb,c0,c1,c2,-⟩:=h.at_ h0
 have e0:tk (t :: l) 0=t:=rfl
 rw [e0] at c0 c1 c2
 exact ⟨ad,e,h0,hb,c0,c1,c2⟩
theorem sl1_tok (ad:Addr) (n c:Nat) (h0:0 < n) (_hc:n≤c):∃ A',(∀ W,(Instr.slice 36 (.slice (some ad) n c) (some (.int .i64 1)) none none).run Tryz.prog W=.ok (.slice A' (n - 1) (c - 1)) W)∧(c=1∨A'=some (ad.add 3)):=by
 refine ⟨if c=1 then some ad else some (ad.add 3),fun W=>?_,?_⟩
 · rw [run_slice_l W _ (some ad) n c (by rw [Tryz.underlying36]; kernel_rfl) .i64 1 (by omega) (by omega)]
   have e:(sizeOf (Tryz.prog.elem 36)).run Tryz.prog W=.ok 3 W:=by kernel_rfl
   rw [e]
   show Result.ok (sliced (some ad) 1 n c 3) W=_
   unfold sliced
   by_cases h:c=1
   · rw [if_pos h,if_pos h]
   · rw [if_neg h,if_neg h]; rfl
 · by_cases h:c=1
   · exact .inl h
   · rw [if_neg h]; exact .inr rfl
theorem tok_rest {w:World} {ad:Addr} {n c:Nat} {t:Tok} {l:List Tok} (h:Tks w (some ad) n (t :: l)) (h0:0 < n) (hc:n≤c) :
 ∃ A' n' c',(∀ W,(Instr.slice 36 (.slice (some ad) n c) (some (.int .i64 1)) none none).run Tryz.prog W=.ok (.slice A' n' c') W)∧Tks w A' n' l∧n'≤c'∧n' < n:=by
 obtain ⟨A',HS,HA⟩:=sl1_tok ad n c h0 hc
 obtain ⟨t1,t2⟩:=h.tail
 refine ⟨A',n - 1,c - 1,HS,?_,by omega,by omega⟩
 rcases HA with h' | rfl
 · rw [t2 (by omega),show n - 1=0 by omega]
   exact ⟨⟨rfl,fun h=>absurd h (by omega)⟩,by omega,by simp⟩
 · exact t1
set_option maxHeartbeats 2000000 in
theorem elements_c (A:Option Addr) (n c:Nat) (ts:List Tok) (w:World) (h:Tks w A n ts) (hc:n≤c) (hn:n≤1000) (hm:ts.all mayT=true) :
 Calls Tryz.prog 82 #[.slice A n c] w fun e w'=>∃ A' m c',e=.returned (.tuple #[.slice A' m c',.agg #[.int .i64 (elsQ ts).2.1,.int .i64 (elsQ ts).2.2]])∧Hid (OwnE w' w.heap.size A' m c' (elsQ ts).1)∧Hid (Below w.heap.size w w'):=by
 have HZ:Hid (∀ t ∈ ts,isZ t.1=true):=hid fun t ht=>by
  have:=List.all_eq_true.1 hm t ht;simp only [mayT,Bool.and_eq_true] at this;exact this.1
 have HW:=hid (h.below (qA2 w (.cells #[.int .i64 0,.int .i64 0] 27)))
 have HB0:=hid (qA2 w (.cells #[.int .i64 0,.int .i64 0] 27))
 have HF0:=hid (FB.new w (.int .i64 0) (.int .i64 0))
 have HLn:=hid h.len
 clear h hm
 go_enter Tryz.func82,Tryz.ntmps82
 go_upto_region 1 with fail
 have hgW:w.heap.size < (w.alloc (.cells #[.int .i64 0,.int .i64 0] 27)).heap.size:=by simp
 generalize w.alloc (.cells #[.int .i64 0,.int .i64 0] 27)=W0 at *
 generalize hg:w.heap.size=g at *
 have HGe:=hid hg
 clear hg
 go_wp2
 go_loopw [0,4] (fun s0 s4 wr=>∃ (A1:Option Addr) (n1 c1:Nat) (l:List Tok) (A2:Option Addr) (m c2:Nat) (D:List El),s0=.slice A1 n1 c1∧s4=.slice A2 m c2∧Tks W0 A1 n1 l∧n1≤c1∧(∀ t ∈ l,isZ t.1=true)∧OwnE wr W0.heap.size A2 m c2 D∧Below W0.heap.size W0 wr ∧
  elsL ts=D++elsL l∧elsB ts=elsB l∧D.length+l.length≤1000) (fun s0 _ _=>match s0 with | .slice _ k _=>k | _=>0)
 case atStart=>exact ⟨_,_,_,ts,none,0,0,[],rfl,rfl,HW.out,hc,HZ.out,ownE_nil _ _,Below.refl _ _,rfl,rfl,by rw [HLn.out]; simpa using hn⟩
 case round=>
  obtain ⟨A1,n1,c1,l,A2,m,c2,D,rfl,rfl,ht0,hc1,hz0,ho0,hb0,hL0,hB1,hlen0⟩:=hrel;have HO:=hid ho0;have HB:=hid hb0;have HL:=hid hL0;have HBB:=hid hB1;have HTW:=hid ht0;have HT:=hid (ht0.below hb0);have HF:=hid (HF0.out.below hb0 hgW);have HZl:=hid hz0;have hDm:=ho0.len;clear ht0 ho0 hb0 hL0 hB1 hz0
  cases l with
  | nil=>
   obtain rfl:n1=0:=HTW.out.len.symm;have a0:=HF.out.c0;have a1:=HF.out.c1;have q0:=HF.out.fr 0;have q1:=HF.out.fr 1
   go_wp2
   have HX:=hid (elsQ_no (HBB.out.trans rfl));refine bodyPost_ret (v:=.tuple #[.slice A2 m c2,.agg #[.int .i64 0,.int .i64 0]]) (by simp [results,Tryz.results82,go_sem,a0,a1]) rfl ⟨A2,m,c2,?_,?_,?_⟩
   · rw [HX.out]
   · rw [HX.out,show elsL ts=D by rw [HL.out]; simp [elsL]]
     exact hid ⟨qC5 (qAH (qAH HO.out.1 (p:=⟨g,0,none⟩) hgW _) (p:=⟨g,1,none⟩) hgW _) (HGe.out ▸ Nat.le_of_lt hgW),HO.out.2⟩
   · rw [HGe.out]
     exact hid (Below.set2 (HB0.out.trans (HB.out.mono (Nat.le_of_lt hgW))) (Nat.le_refl _) _ _)
  | cons t l=>
   obtain ⟨ad,rfl,h0,hbk,k0,k1,k2⟩:=tks_none HT.out;obtain ⟨A3,n3,c3,HS,ht3,hc3,hlt3⟩:=tok_rest HTW.out h0 hc1;have HT3:=hid ht3;have hz:=HZl.out t (by simp);obtain ⟨r,q,a⟩:=t;obtain ⟨x,rfl,hx⟩:=qD4 hz;have HSP:=hid (fun W=>spl_c x a q ⟨#[42]⟩ W (qBY (by decide)) (by decide) hx);have hst:stT ((x:Int),q,a)=(!q && inS8 ⟨#[42]⟩ x):=by
    have:=qIM 42 (e:=(((x:Int),q,a),false)) hz
    simpa [cls,plE,stT] using this.symm
   generalize (!q && inS8 ⟨#[42]⟩ x)=b at HSP hst;have HBn:=hid (BX.new wr #[.int .i32 (x:Int),.bool q,.int .i64 a] 147);have HZt:=hid hz;clear ht3 hz
   cases b
   · have HN1:=hid (qCJ hst l)
     have HN2:=hid (qDB hst l);clear hst
     go_wp2_with (first
      | (go_at_call 123; refine (HSP.out _).mono ?_; rintro e w1 ⟨rfl,hb1⟩; have hq:=(HBn.out.below hb1 HBn.out.lt); have d0:=hq.c 0; have d1:=hq.c 1; have d2:=hq.c 2; have HBq:=hid ((qA2 wr (.cells #[.int .i32 (x:Int),.bool q,.int .i64 a] 147)).trans (hb1.mono (by simp))); have HOq:=hid (HO.out.keep HBq.out rfl))
      | (at_builtin; go_must (refine qKW rfl (.tmp 18) (.tmp 21) _ rfl Tryz.underlying75 W0.heap.size (.slice A2 m c2) m D rfl HOq.out.1 (((x:Int),q,a),false) rfl _ _ (pE_s _ _ _) (by omega) (HB.out.trans (HBq.out.mono HB.out.size)) (Nat.le_trans HB.out.size HBq.out.size) ?_))
      | fail)
     intro v' w' p1 p2 p3;obtain ⟨A4,c4,rfl⟩:=qAJ p1.out
     go_wp2
     go_roundw
     case rel=>
      refine ⟨_,_,_,l,_,_,_,D++[(((x:Int),q,a),false)],rfl,rfl,HT3.out,hc3,fun t ht=>HZl.out t (List.mem_cons_of_mem _ ht),⟨by rw [List.map_append]; exact p1.out,?_,?_⟩,p2.out,?_,?_,?_⟩
      · simp at hlen0; omega
      · intro t ht
        rcases List.mem_append.1 ht with ht | ht
        · exact HO.out.2.2 t ht
        · rw [List.mem_singleton] at ht; subst ht; exact HZt.out
      · rw [HL.out,HN1.out,List.append_assoc]; rfl
      · rw [HBB.out,HN2.out]
      · simp at hlen0 ⊢; omega
     case measure=>exact hlt3
   · cases l with
     | nil=>
      obtain rfl:n3=0:=HT3.out.len.symm;have HX:=hid (elsQ_yes (HBB.out.trans (qE2 hst)));clear hst
      go_wp2_with (first
       | (go_at_call 123; refine (HSP.out _).mono ?_; rintro e w1 ⟨rfl,hb1⟩; have hq:=(HBn.out.below hb1 HBn.out.lt); have d0:=hq.c 0; have d1:=hq.c 1; have d2:=hq.c 2; have HBq:=hid ((qA2 wr (.cells #[.int .i32 (x:Int),.bool q,.int .i64 a] 147)).trans (hb1.mono (by simp))); have HOq:=hid (HO.out.keep HBq.out rfl); have HFq:=hid (HF.out.below HBq.out HF.out.lt); have a0:=HFq.out.c0; have a1:=HFq.out.c1; have q0:=HFq.out.fr 0; have q1:=HFq.out.fr 1)
       | fail)
      go_region
      go_wp2
      refine bodyPost_ret (v:=.tuple #[.slice none 0 0,.agg #[.int .i64 7,.int .i64 a]]) (by simp [results,Tryz.results82,go_sem,a0,a1]) rfl ⟨none,0,0,?_,?_,?_⟩
      · rw [HX.out]
      · rw [HX.out]
        exact hid (ownE_nil _ _)
      · rw [HGe.out]
        have:=Below.set2 ((HB0.out.trans (HB.out.mono (Nat.le_of_lt hgW))).trans (HBq.out.mono (Nat.le_of_lt HF.out.lt))) (Nat.le_refl g) (.int .i64 7) (.int .i64 a);exact hid this.drew
     | cons u l=>
      obtain ⟨ad3,rfl,h03,hbk3,k3,-,-⟩:=tks_none HT3.out;obtain ⟨A5,n5,c5,HS5,ht5,hc5,hlt5⟩:=tok_rest HT3.out h03 hc3;have HT5:=hid ht5;have HN1:=hid (qCS hst u l);have HN2:=hid (qE1 hst u l);have hz2:=HZl.out u (by simp);have HZu:=hid hz2;have HK3:=hid ((HB.out.cell (p:=ad3) hbk3).trans k3);have hbr3:=Nat.lt_of_lt_of_le hbk3 HB.out.size;obtain ⟨r2,q2,a2⟩:=u;clear hst ht5 k3 hz2
      go_wp2_with (first
       | (go_at_call 123; refine (HSP.out _).mono ?_; rintro e w1 ⟨rfl,hb1⟩; have hq:=(HBn.out.below hb1 HBn.out.lt); have d0:=hq.c 0; have d1:=hq.c 1; have d2:=hq.c 2; have HBq:=hid ((qA2 wr (.cells #[.int .i32 (x:Int),.bool q,.int .i64 a] 147)).trans (hb1.mono (by simp))); have HOq:=hid (HO.out.keep HBq.out rfl); have k3:=(HBq.out.cell (p:=ad3) hbr3).trans HK3.out)
       | fail)
      have HBd:=hid (HBq.out.drew);have HOd:=hid (HOq.out.keep ((Below.refl w1.heap.size w1).drew) rfl);obtain ⟨i0,hi,hz0,hz1,hz2⟩:=info_parts qGI;have hq3:ad3.block < w1.heap.size:=Nat.lt_of_lt_of_le hbr3 HBq.out.size;have hqb:wr.heap.size < w1.heap.size:=Nat.lt_of_lt_of_le (by simp) hb1.size;have hne:∀ j,(Value.slice A2 m c2).ownBlock=some j→W0.heap.size≤j∧j < wr.heap.size:=fun j hj=>HO.out.1.lt j hj
      have HNE:=hid hne;clear hne;have hdr:w1.drew.heap.size=w1.heap.size:=rfl;have hszB:W0.heap.size≤w1.drew.heap.size:=Nat.le_trans HB.out.size HBd.out.size
      go_region_held_law (fun w'=>w'.cell? ad3=some (.int .i32 r2)∧w'.cell? ⟨wr.heap.size,2,none⟩=some (.int .i64 a))
       (first
        | go_keep
        | (refine ⟨(hgrow.cell_far ad3 (by simp; omega) (fun e=>by have:=HNE.out _ e.symm; omega)).trans (by first | assumption | (refine (World.cell?_alloc_some _ _ _ (Option.isSome_iff_exists.2 ⟨_,by assumption⟩)).trans (by assumption))),(hgrow.cell_far ⟨wr.heap.size,2,none⟩ (by simp; omega) (fun e=>by have:=HNE.out _ e.symm; dsimp only at this; omega)).trans (by first | assumption | (refine (World.cell?_alloc_some _ _ _ (Option.isSome_iff_exists.2 ⟨_,by assumption⟩)).trans (by assumption)))⟩))
       ((refine step_append_lies _ (by rfl) (.tmp 30) (.tmp 40) _ (by rfl) W0.heap.size 111 i0 .nilIface 1 16 Tryz.underlying75 hi hz0 hz1 hz2 rfl (by decide) (.slice A2 m c2) m (D.map pE) (by rfl) (HOd.out.1.alloc _) ⟨w1.drew.heap.size,0,none⟩ 1 1 [pE ((r2,false,a),true)] (by rfl) (by rfl) (qDI w1.drew _ _) (by simp [pE,Value.oneCell']) (by omega) (by unfold maxLen; omega) (by omega) (by simp; omega) _ rfl ?_; intro g' cap w2 hown1 hgrow hat hlt))
      have HB2:=hid (((HB.out.trans (HBd.out.mono HB.out.size)).alloc hszB _).grown hgrow (by simp; omega) fun j hj=>(HO.out.1.lt j hj).1);have HO2:=hid hown1;clear hown1 hgrow hat hlt HNE
      go_wp2
      go_roundw
      case rel=>
       refine ⟨_,_,_,l,_,_,_,D++[((r2,false,a),true)],rfl,rfl,HT5.out,hc5,fun t ht=>HZl.out t (List.mem_cons_of_mem _ (List.mem_cons_of_mem _ ht)),⟨by rw [List.map_append]; exact HO2.out,?_,?_⟩,HB2.out,?_,?_,?_⟩
       · simp at hlen0; omega
       · intro t ht
         rcases List.mem_append.1 ht with ht | ht
         · exact HO.out.2.2 t ht
         · rw [List.mem_singleton] at ht; subst ht; exact HZu.out
       · rw [HL.out,HN1.out,List.append_assoc]; rfl
       · rw [HBB.out,HN2.out]
       · simp at hlen0 ⊢; omega
      case measure=>exact Nat.lt_trans hlt5 hlt3
theorem qJ0 {W w0:World} {ops:Array Oper} {rest:List Oper} {o:Oper} {a:Act} {Q:Exit→Act→World→Prop} (hgd:o.guard=none) (s x:Operand) (t:TypeId)
 (ho:o.op=.call { callee:=.builtin .append,args:=#[s,x],argTypes:=#[t,t] }) (ht:Tryz.prog.underlying t=some (.slice 111))
 (base:Nat) (v:Value) (k:Nat) (xs:List El) (hs:a.eval s=v) (hown:W.ownsRow base 111 1 v k (xs.map pE)) {D:Nat} (A:Option Addr) (m c:Nat) (ys:List El)
 (hx:a.eval x=.slice A m c) (hr:Pls W D A m ys) (hcp:Cp A m c) (hk:k+m≤1000000000000) (hb:Below base w0 W) (hbase:base≤W.heap.size)
 (h:∀ v' w',Hid (w'.ownsRow base 111 1 v' (k+m) ((xs++ys).map pE))→Hid (Below base w0 w')→wpList Tryz.prog ops Q rest (a.put o.dst v') w') :
 wpList Tryz.prog ops Q (o :: rest) a W:=by
 obtain ⟨i0,hi,hz0,hz1,hz2⟩:=info_parts qGI
 have hl:=hr.len
 cases A with
 | none=>
  obtain rfl:c=0:=hcp.2 rfl;obtain rfl:m=0:=by have:=hcp.1; omega
  have:ys=[]:=List.eq_nil_of_length_eq_zero hl;subst this;refine wpList_append_own_none hgd s x t ho base 111 i0 1 ht hi v k _ hs hown hx ?_;refine h v W ?_ (hid hb);rw [List.append_nil]; exact hid hown
 | some ad=>
  refine wpList_append_own _ hgd s x t ho base 111 i0 .nilIface 1 16 ht hi hz0 hz1 hz2 rfl (by decide) v k _ hs hown ad m c (ys.map pE) hx (by rw [List.length_map,hl,Nat.mul_one]) ?_ ?_ ?_ ?_ hbase ?_
  · intro j u hu
    have hj:j < m:=by
     have:=(List.getElem?_eq_some_iff.1 hu).1;rw [List.length_map,hl] at this; exact this
    obtain ⟨ad',e,_,hc⟩:=hr.1.2 (by omega);obtain rfl:=Option.some.inj e;exact hc j u hu
  · intro u hu
    obtain ⟨e,-,rfl⟩:=List.mem_map.1 hu;obtain ⟨T,y,hT⟩:=qKV e;rw [hT]; rfl
  · unfold maxLen; omega
  · omega
  · intro v' w' h1 h2 _
    refine h v' w' ?_ ?_
    · rw [List.map_append]; exact hid h1
    · exact hid (hb.grown h2 hbase fun j hj=>(hown.lt j hj).1)
set_option maxHeartbeats 1000000 in
theorem grow_c (n:Nat) (w:World) (hn:n≤1000000):Calls Tryz.prog 176 #[.slice none 0 0,.int .i64 (n:Int)] w fun e w'=>
 ∃ v,e=.returned v∧Hid (w'.ownsRow w.heap.size 111 1 v 0 [])∧Hid (Below w.heap.size w w'):=by
 have g0:decide ((n:Int) < 0)=false:=decide_eq_false (by omega)
 have g1:IntKind.i64.wrap ((n:Int) - 0)=(n:Int):=by rw [Int.sub_zero]; exact wrap_small _ (by omega) (by omega)
 by_cases h0:0 < n
 · obtain ⟨i0,hi,hz0,hz1,hz2⟩:=info_parts qGI
   have hr:=Lib.run_append_nil_zeros (P:=Tryz.prog) w 75 3 75 111 i0 .nilIface .i64 .i64 Tryz.underlying75 Tryz.underlying3 hi hz0 n h0 (by rw [hz1]; decide) (by omega) (by rw [hz2]; omega);have hcap:n≤grownCap w n 0 111:=grownCap_ge ..;have hmax:grownCap w n 0 111≤maxLen:=grownCap_le_maxLen _ _ _ _ (by unfold maxLen; omega);generalize grownCap w n 0 111=cp at *
   go_enter Tryz.func176,Tryz.ntmps176
   go_wp2_with (at_builtin; refine Lib.wpList_append_run _ rfl _ _ _ _ rfl _ _ rfl rfl _ _ hr ?_)
   go_ret
   refine ⟨_,rfl,hid ?_,hid ((qA2 w _).drew)⟩;refine ⟨rfl,.inr ⟨w.heap.size,cp,_,rfl,Nat.le_refl _,heap_alloc_new w _,Nat.zero_le _,hmax,?_,rfl⟩⟩;rw [Array.size_append,size_zeroCells,size_zeroCells]
   show n * 1+(cp - n) * 1=cp * 1
   omega
 · obtain rfl:n=0:=by omega
   go_enter Tryz.func176,Tryz.ntmps176
   go_wp2
   go_ret
   exact ⟨_,rfl,hid (World.ownsRow_nil _ _ _ _),hid (Below.refl _ _)⟩
structure Pss (w:World) (D g:Nat) (L:List (Option Addr × Nat × Nat × List El)):Prop where
 lt:g < w.heap.size
 at_:∀ j (h:j < L.length),w.cell? ⟨g,j,none⟩=some (.slice L[j].1 L[j].2.1 L[j].2.2.1)∧Pls w D L[j].1 L[j].2.1 L[j].2.2.2∧Cp L[j].1 L[j].2.1 L[j].2.2.1
theorem Pss.below {w w':World} {D g:Nat} {L:List (Option Addr × Nat × Nat × List El)} (h:Pss w D g L) (hb:Below w.heap.size w w'):Pss w' D g L:=
 ⟨Nat.lt_of_lt_of_le h.lt hb.size,fun j hj=>by
  obtain ⟨h1,h2,h3⟩:=h.at_ j hj;exact ⟨(hb.cell (p:=⟨g,j,none⟩) h.lt).trans h1,h2.below hb,h3⟩⟩
def totP (L:List (Option Addr × Nat × Nat × List El)) (k:Nat):Nat:=((L.take k).map (·.2.1)).sum
def allP (L:List (Option Addr × Nat × Nat × List El)) (k:Nat):List El:=(L.take k).flatMap (·.2.2.2)
theorem qIN {L:List (Option Addr × Nat × Nat × List El)} {k:Nat} (h:k < L.length):totP L (k+1)=totP L k+L[k].2.1:=by
 unfold totP
 rw [List.take_succ_eq_append_getElem h,List.map_append,List.sum_append]; simp
theorem allP_succ {L:List (Option Addr × Nat × Nat × List El)} {k:Nat} (h:k < L.length):allP L (k+1)=allP L k++L[k].2.2.2:=by
 unfold allP
 rw [List.take_succ_eq_append_getElem h,List.flatMap_append]; simp
theorem totP_le {L:List (Option Addr × Nat × Nat × List El)} {k:Nat} (h:k≤L.length):totP L k≤totP L L.length:=by
 obtain ⟨d,hd⟩:∃ d,L.length=k+d:=⟨L.length - k,by omega⟩
 rw [hd]
 have:∀ d,k+d≤L.length→totP L k≤totP L (k+d):=by
  intro d
  induction d with
  | zero=>intro _; exact Nat.le_refl _
  | succ d ih=>
   intro h';have:=ih (by omega);rw [show k+(d+1)=(k+d)+1 by omega,qIN (by omega)];omega
 exact this d (by omega)
set_option maxHeartbeats 2000000 in
theorem concat_c (D g n c:Nat) (L:List (Option Addr × Nat × Nat × List El)) (w:World) (hL:L.length=n) (hn:n≤1000) (ht:totP L n≤1000000) (h:Pss w D g L) :
 Calls Tryz.prog 126 #[.slice (some ⟨g,0,none⟩) n c] w fun e w'=>
  ∃ A' m c',e=.returned (.slice A' m c')∧Hid (w'.ownsRow w.heap.size 111 1 (.slice A' m c') m ((allP L n).map pE))∧Hid (Below w.heap.size w w'):=by
 have HL:=hid hL
 have HS:=hid h
 have HT:Hid (∀ k,k≤n→totP L k≤1000000):=hid fun k hk=>Nat.le_trans (hL ▸ totP_le (hL ▸ hk)) ht
 clear h hL
 go_enter Tryz.func126,Tryz.ntmps126
 go_wp2
 go_loopw [3,11] (fun sz iv wr=>∃ (k:Nat),k≤n∧iv=.int .i64 (k:Int)∧sz=.int .i64 ((totP L k:Nat):Int)∧wr=w) (fun _ iv _=>n - (intOf iv).toNat)
 case atStart=>exact ⟨0,Nat.zero_le _,rfl,rfl,rfl⟩
 case round=>
  obtain ⟨k,hk,rfl,rfl,hw⟩:=hrel;obtain rfl:w=wr:=hw.symm
  by_cases hlt:k < n
  · have hks:k < L.length:=by rw [HL.out]; exact hlt
    obtain ⟨c0,-,-⟩:=HS.out.at_ k hks;have e:=qIN hks;have hb:=HT.out (k+1) hlt;have g1:IntKind.i64.wrap (((totP L k:Nat):Int)+((L[k].2.1:Nat):Int))=((totP L (k+1):Nat):Int):=by
     rw [show ((totP L k:Nat):Int)+((L[k].2.1:Nat):Int)=((totP L (k+1):Nat):Int) by omega];exact wrap_small _ (by omega) (by omega)
    have g2:decide (((totP L (k+1):Nat):Int) < 0)=false:=decide_eq_false (by omega);clear e hb
    go_wp2
    go_roundw
    case rel=>exact ⟨k+1,by omega,by go_num,rfl,by trivial⟩
    case measure=>simp [intOf]; omega
  · obtain rfl:k=n:=by omega
    have hb:=HT.out k (Nat.le_refl _);have HG:=hid (grow_c (totP L k) w hb)
    go_wp2_with (first
     | (go_at_call 176; refine HG.out.mono ?_; rintro e w1 ⟨v,rfl,ho,hb1⟩)
     | fail)
    go_loopw [6,27] (fun s iv wq=>∃ (j:Nat),j≤k∧iv=.int .i64 (j:Int)∧wq.ownsRow w.heap.size 111 1 s (totP L j) ((allP L j).map pE)∧Below w.heap.size w wq) (fun _ iv _=>k - (intOf iv).toNat)
    case atStart=>exact ⟨0,Nat.zero_le _,rfl,ho.out,hb1.out⟩
    case round=>
     obtain ⟨j,hj,rfl,ho0,hb0⟩:=hrel;obtain ⟨A1,c1,rfl⟩:=qAJ ho0;have HO:=hid ho0;have HB:=hid hb0;have HSq:=hid (HS.out.below hb0);clear ho0 hb0
     by_cases hlj:j < k
     · have hjs:j < L.length:=by rw [HL.out]; exact hlj
       obtain ⟨c0,hp0,hcp0⟩:=HSq.out.at_ j hjs;have HP:=hid hp0;have HCP:=hid hcp0;have HE1:=hid (qIN hjs);have HE2:=hid (allP_succ hjs);have HBd:=hid (HT.out (j+1) hlj);clear hp0 hcp0;generalize L[j].1=X1 at *;generalize L[j].2.1=X2 at *;generalize L[j].2.2.1=X3 at *;generalize L[j].2.2.2=X4 at *
       go_wp2_with (at_builtin; go_must (refine qJ0 rfl (.tmp 31) (.tmp 32) _ rfl Tryz.underlying75 w.heap.size (.slice A1 (totP L j) c1) (totP L j) (allP L j) rfl HO.out X1 X2 X3 X4 rfl HP.out HCP.out (by have:=HBd.out; have:=HE1.out; omega) HB.out HB.out.size ?_))
       intro v' w' p1 p2
       go_wp2
       go_roundw
       case rel=>exact ⟨j+1,by omega,by go_num,by rw [HE1.out,HE2.out,List.map_append]; exact p1.out,p2.out⟩
       case measure=>simp [intOf]; omega
     · obtain rfl:j=k:=by omega
       go_wp2
       go_ret
       exact ⟨_,_,_,rfl,HO,HB⟩
theorem isS_yes (W:World) (v:Value):(Instr.typeAssert (.iface 147 v) 111 147 true).run Tryz.prog W=.ok (.tuple #[v,.bool true]) W:=by kernel_rfl
theorem isS_no (W:World) (v:Value):(Instr.typeAssert (.iface 149 v) 111 147 true).run Tryz.prog W=.ok (.tuple #[.agg #[.int .i32 0,.bool false,.int .i64 0],.bool false]) W:=by kernel_rfl
theorem tksE_take {es:List El} {k:Nat} (h:k < es.length):tksE (es.take (k+1))=tksE (es.take k)++(if es[k].2 then [] else [es[k].1]):=by
 unfold tksE
 rw [List.take_succ_eq_append_getElem h,List.filter_append,List.map_append]
 congr 1
 cases hp:es[k].2 <;> simp [hp]
theorem qKZ (es:List El):(tksE es).length≤es.length:=by
 unfold tksE
 rw [List.length_map]; exact List.length_filter_le _ _
set_option maxHeartbeats 2000000 in
theorem qLY {D:Nat} (A:Option Addr) (n c:Nat) (es:List El) (w:World) (h:Pls w D A n es) (hn:n≤1000) :
 Calls Tryz.prog 87 #[.slice A n c] w fun e w'=>
  ∃ A' m c',e=.returned (.tuple #[.slice A' m c',.agg #[.int .i64 (itms (tksE es)).2.1,.int .i64 (itms (tksE es)).2.2]])∧Hid (OwnI w' w.heap.size A' m c' (itms (tksE es)).1)∧Hid (Below w.heap.size w w'):=by
 have HLn:=hid h.len
 have HW:=hid (h.below (qA2 w (.cells #[.int .i64 0,.int .i64 0] 27)))
 have HB0:=hid (qA2 w (.cells #[.int .i64 0,.int .i64 0] 27))
 have HF0:=hid (FB.new w (.int .i64 0) (.int .i64 0))
 clear h
 go_enter Tryz.func87,Tryz.ntmps87
 go_upto_region 1 with fail
 have hgW:w.heap.size < (w.alloc (.cells #[.int .i64 0,.int .i64 0] 27)).heap.size:=by simp
 generalize w.alloc (.cells #[.int .i64 0,.int .i64 0] 27)=W0 at *
 generalize hg:w.heap.size=g at *
 have HGe:=hid hg
 clear hg
 go_wp2
 go_loopw [4,11] (fun s iv wr=>∃ (k:Nat) (A1:Option Addr) (m c1:Nat),k≤n∧iv=.int .i64 (k:Int)∧s=.slice A1 m c1∧OwnT wr W0.heap.size A1 m c1 (tksE (es.take k))∧Below W0.heap.size W0 wr) (fun _ iv _=>n - (intOf iv).toNat)
 case atStart=>exact ⟨0,none,0,0,Nat.zero_le _,rfl,rfl,qCZ _ _,Below.refl _ _⟩
 case round=>
  obtain ⟨k,A1,m,c1,hk,rfl,rfl,ho0,hb0⟩:=hrel;have HO:=hid ho0;have HB:=hid hb0;have HT:=hid (HW.out.below hb0);have hm:m≤1000:=by
   have h1:=ho0.len;have h2:=qKZ (es.take k);rw [List.length_take] at h2;omega
  clear ho0 hb0
  by_cases hlt:k < n
  · have hks:k < es.length:=by rw [HLn.out]; exact hlt
    obtain ⟨ad,rfl,hbk,c0,hz⟩:=HT.out.at_ hlt;rw [qBG hks] at c0 hz;have HTK:=hid (tksE_take hks);generalize es[k]=ek at *;obtain ⟨⟨r,q,a⟩,p⟩:=ek;have HZ:=hid hz;clear hz
    cases p
    · rw [pE_s] at c0
      have h1:=isS_yes;have HO1:=hid (HO.out.keep (qA2 wr (.cells #[.int .i32 r,.bool q,.int .i64 a] 147)) rfl)
      go_wp2_with (at_builtin; go_must (refine qAF rfl (.tmp 21) (.tmp 24) _ rfl Tryz.underlying36 W0.heap.size (.slice A1 m c1) m (tksE (es.take k)) rfl HO1.out.1 (r,q,a) (by rw [World.size_alloc]; rfl) r q a rfl (by omega) (HB.out.alloc HB.out.size _) (Nat.le_trans HB.out.size (by simp)) ?_))
      intro v' w' p1 p2 p3;obtain ⟨A4,c4,rfl⟩:=qAJ p1.out;clear h1
      go_wp2
      go_roundw
      case rel=>
       refine ⟨k+1,_,_,_,by omega,by go_num,rfl,⟨by rw [HTK.out]; exact p1.out,by omega,?_⟩,p2.out⟩;rw [HTK.out];intro t ht
       rcases List.mem_append.1 ht with ht | ht
       · exact HO.out.2.2 t ht
       · obtain rfl:t=(r,q,a):=by simpa using ht
         have:=qAS.1 HZ.out;exact ⟨by dsimp only at this ⊢; omega,by dsimp only at this ⊢; omega⟩
      case measure=>simp [intOf]; omega
    · rw [pE_p] at c0
      have h1:=isS_no
      go_wp2
      go_roundw
      case rel=>
       refine ⟨k+1,_,_,_,by omega,by go_num,rfl,?_,HB.out.alloc HB.out.size _⟩;rw [HTK.out];simp only [if_true,List.append_nil];exact HO.out.keep (qA2 wr _) rfl
      case measure=>simp [intOf]; omega
  · obtain rfl:k=n:=by omega
    have hte:es.take k=es:=List.take_of_length_le (by rw [HLn.out]; exact Nat.le_refl _);rw [hte] at HO;have HF:=hid (HF0.out.below HB.out hgW);have HC:=hid (affItems_c A1 m c1 _ wr HO.out.tks);clear hte
    go_wp2_with (first
     | (go_at_call 128; refine HC.out.mono ?_; rintro e w1 ⟨A5,m5,c5,rfl,ho5,hb5⟩; have HF1:=hid (HF.out.below hb5.out HF.out.lt); have a0:=HF1.out.c0; have a1:=HF1.out.c1; have q0:=HF1.out.fr 0; have q1:=HF1.out.fr 1)
     | fail)
    have hgr:g < wr.heap.size:=HF.out.lt;refine bodyPost_ret (v:=.tuple #[.slice A5 m5 c5,.agg #[.int .i64 (itms (tksE es)).2.1,.int .i64 (itms (tksE es)).2.2]]) (by simp [results,Tryz.results87,go_sem,a0,a1]) rfl ⟨A5,m5,c5,rfl,?_,?_⟩
    · exact hid ⟨qC5 (qAH (qAH ho5.out.1 (p:=⟨g,0,none⟩) hgr _) (p:=⟨g,1,none⟩) hgr _) (HGe.out ▸ Nat.le_of_lt hgr),ho5.out.2⟩
    · rw [HGe.out]
      exact hid (Below.set2 ((HB0.out.trans (HB.out.mono (Nat.le_of_lt hgW))).trans (hb5.out.mono (Nat.le_of_lt hgr))) (Nat.le_refl _) _ _)
theorem hpl (es:List El):es.length=(hpre es).length+((hnum es).length+(hsuf es).length):=by
 conv=>lhs; rw [qBE es]
 rw [List.length_append,List.length_append]
set_option maxHeartbeats 2000000 in
theorem where16_c {D:Nat} (v:Value) (b:Int) (l:Bool) (es:List El) (i:Nat) (w:World) (h:HfM w D v b l es) (hn:es.length≤1000) (hi:i < es.length) :
 Calls Tryz.prog 127 #[v,.int .i64 (i:Int)] w fun e w'=>e=.returned (.int .i64 (whr (!l) (hpre es).length ((hpre es).length+(hnum es).length) es.length i))∧Hid (Below w.heap.size w w'):=by
 obtain ⟨A1,n1,c1,A2,n2,c2,A3,n3,c3,rfl,h1,h2,h3,-,-,-⟩:=h
 have e1:=h1.len
 have e2:=h2.len
 have e3:=h3.len
 have e4:=hpl es
 rw [e1,e2]
 rw [e1,e2,e3] at e4
 rw [e4] at hi hn ⊢
 clear h1 h2 h3 e1 e2 e3 e4
 generalize hW:whr (!l) n1 (n1+n2) (n1+(n2+n3)) i=W
 unfold whr at hW
 have HB0:=hid (qA2 w (.cells #[.int .i64 b,.bool l,.slice A1 n1 c1,.slice A2 n2 c2,.slice A3 n3 c3] 77))
 have gc:∀ z:Int,-9223372036854775808≤z→z≤9223372036854775807→IntKind.i64.wrap z=z:=fun z _ _=>by rw [IntKind.wrap_i64]; omega
 have ga:=gc ((n1:Int)+(n2:Int)) (by omega) (by omega)
 have gb:=gc ((n1:Int)+(n2:Int)+(n3:Int)) (by omega) (by omega)
 have gd:=gc ((n1:Int) - 1) (by omega) (by omega)
 have ge:=gc ((n1:Int)+(n2:Int)+(n3:Int) - 1) (by omega) (by omega)
 clear gc
 cases l
 · simp only [Bool.not_false,Bool.true_eq_false,if_false] at hW
   by_cases q0:i=0
   · rw [if_pos q0] at hW
     subst q0 hW
     go_enter Tryz.func127,Tryz.ntmps127
     go_wp2
     go_ret
     exact ⟨rfl,HB0⟩
   · have b0:((i:Int) == 0)=false:=by rw [beq_eq_false_iff_ne]; omega
     rw [if_neg q0] at hW
     by_cases q1:i+1=n1
     · rw [if_pos q1] at hW
       have b1:((i:Int) == (n1:Int) - 1)=true:=by rw [beq_iff_eq]; omega
       clear q0 q1;subst hW
       go_enter Tryz.func127,Tryz.ntmps127
       go_wp2
       go_ret
       exact ⟨rfl,HB0⟩
     · rw [if_neg q1] at hW
       have b1:((i:Int) == (n1:Int) - 1)=false:=by rw [beq_eq_false_iff_ne]; omega
       by_cases q2:i=n1+n2
       · rw [if_pos q2] at hW
         have b2:((i:Int) == (n1:Int)+(n2:Int))=true:=by rw [beq_iff_eq]; omega
         clear q0 q1 q2;subst hW
         go_enter Tryz.func127,Tryz.ntmps127
         go_wp2
         go_ret
         exact ⟨rfl,HB0⟩
       · rw [if_neg q2] at hW
         have b2:((i:Int) == (n1:Int)+(n2:Int))=false:=by rw [beq_eq_false_iff_ne]; omega
         by_cases q3:i+1=n1+(n2+n3)
         · rw [if_pos q3] at hW
           have b3:((i:Int) == (n1:Int)+(n2:Int)+(n3:Int) - 1)=true:=by rw [beq_iff_eq]; omega
           clear q0 q1 q2 q3;subst hW
           go_enter Tryz.func127,Tryz.ntmps127
           go_wp2
           go_ret
           exact ⟨rfl,HB0⟩
         · rw [if_neg q3] at hW
           have b3:((i:Int) == (n1:Int)+(n2:Int)+(n3:Int) - 1)=false:=by rw [beq_eq_false_iff_ne]; omega
           clear q0 q1 q2 q3;subst hW
           go_enter Tryz.func127,Tryz.ntmps127
           go_wp2
           go_ret
           exact ⟨rfl,HB0⟩
 · obtain rfl:(0:Int)=W:=hW
   go_enter Tryz.func127,Tryz.ntmps127
   go_wp2
   go_ret
   exact ⟨rfl,HB0⟩
set_option maxHeartbeats 1000000 in
theorem qLZ (base:Nat) (v:Value) (l:List Nat) (x:Nat) (w:World) (h:w.ownsRow base 5 1 v l.length (u8s l)) (hx:x < 128) (hl:l.length≤1000000) (hb:base≤w.heap.size) :
 Calls Tryz.prog 196 #[v,.int .i32 (x:Int)] w fun e w'=>∃ A c,e=.returned (.slice A (l.length+1) c)∧Hid (w'.ownsRow base 5 1 (.slice A (l.length+1) c) (l.length+1) (u8s (l++[x])))∧Hid (Below base w w'):=by
 obtain ⟨A,c,rfl⟩:=qAJ h
 have HO:=hid h
 have g1:IntKind.u32.wrap (x:Int)=(x:Int):=by
  have:(x:Int) % 4294967296=x:=Int.emod_eq_of_lt (by omega) (by omega)
  simpa [IntKind.wrap,IntKind.bits,IntKind.signed] using this
 have g2:IntKind.u8.wrap (x:Int)=(x:Int):=by
  have:(x:Int) % 256=x:=Int.emod_eq_of_lt (by omega) (by omega)
  simpa [IntKind.wrap,IntKind.bits,IntKind.signed] using this
 have g3:(x:Int)≤127:=by omega
 clear h
 go_enter Tryz.func196,Tryz.ntmps196
 go_wp2_with (at_builtin; go_must (refine qJW rfl (.tmp 8) (.tmp 11) _ rfl Tryz.underlying71 base (.slice A l.length c) l.length l rfl HO.out _ rfl x rfl (by omega) (Below.refl _ _) hb ?_))
 intro v' w' p1 p2
 obtain ⟨A4,c4,rfl⟩:=qAJ p1.out
 go_wp2
 go_ret
 exact ⟨_,_,rfl,p1,p2⟩
set_option maxHeartbeats 2000000 in
theorem writeRune_c (b:Nat) (p v:Value) (l:List Nat) (x:Nat) (w:World) (hp:p=.pointer none∨p=.pointer (some ⟨b,0,none⟩)) (h:Bld w b p v l) (hx:x < 128) (hl:l.length≤1000000) :
 Calls Tryz.prog 132 #[.pointer (some ⟨b,0,none⟩),.int .i32 (x:Int)] w fun e w'=>e=.returned (.tuple #[.int .i64 1,.nilIface])∧∃ v',Hid (Bld w' b (.pointer (some ⟨b,0,none⟩)) v' (l++[x]))∧Hid (Below b w w'):=by
 have HC:=hid (copyCheck_c b p v l w hp h)
 obtain ⟨A,c,rfl⟩:=qAJ h.own
 clear h hp
 go_enter Tryz.func132,Tryz.ntmps132
 go_upto_region 4 with (first
  | (go_at_call 195; refine HC.out.mono ?_; rintro e w1 ⟨rfl,h1,hb1⟩; have d1:=h1.out.bx.c 1)
  | (go_at_call 196; refine (qLZ (b+1) _ l x w1 h1.out.own hx hl h1.out.bx.lt).mono ?_; rintro e w2 ⟨A2,c2,rfl,ho2,hb2⟩; have hx2:=h1.out.bx.below hb2.out (Nat.lt_succ_self b); have e1:=hx2.c 1; have e2:=hx2.fr 1)
  | fail)
 have HN:Hid (Bld (w2.setCell ⟨b,1,none⟩ (.slice A2 (l.length+1) c2)) b (.pointer (some ⟨b,0,none⟩)) (.slice A2 (l.length+1) c2) (l++[x])):=hid ⟨heap_setCell_same w2 b 1 _ _ _ hx2,by
  rw [List.length_append];exact qAH ho2.out (p:=⟨b,1,none⟩) (Nat.lt_succ_self b) _⟩
 have HB:=hid ((hb1.out.trans (hb2.out.mono (Nat.le_succ b))).setCell (p:=⟨b,1,none⟩) (Nat.le_refl _) (.slice A2 (l.length+1) c2))
 generalize w2.setCell ⟨b,1,none⟩ (.slice A2 (l.length+1) c2)=W3 at *
 clear d1 e1 e2 hx2 ho2 hb1 hb2 h1
 have d1:=HN.out.bx.c 1
 go_wp2
 go_ret2
 refine ⟨?_,_,HN,HB⟩
 show Ending.returned (.tuple #[.int .i64 (((l.length:Nat):Int)+1 - ((l.length:Nat):Int)),.nilIface])=_
 rw [show ((l.length:Nat):Int)+1 - ((l.length:Nat):Int)=1 by omega]
theorem isS_must (W:World) (v:Value):(Instr.typeAssert (.iface 147 v) 111 147 false).run Tryz.prog W=.ok v W:=by kernel_rfl
theorem chE_take {es:List El} {k:Nat} (h:k < es.length):chE (es.take (k+1))=chE (es.take k)++[es[k].1.1.toNat]:=by
 unfold chE
 rw [List.take_succ_eq_append_getElem h,List.map_append]; rfl
theorem qM0 (x y z:Value) (w:World):(Instr.field 147 (.agg #[x,y,z]) 0).run Tryz.prog w=.ok (.agg #[x,y,z]) w:=by kernel_rfl
theorem token_field (x y z:Value) (w:World):(Instr.field 58 (.agg #[x,y,z]) 0).run Tryz.prog w=.ok x w:=by kernel_rfl
attribute [local go_sem] qM0 token_field in
set_option maxHeartbeats 2000000 in
theorem text16_c {D:Nat} (A:Option Addr) (n c:Nat) (es:List El) (w:World) (h:Pls w D A n es) (hn:n≤1000) (hs:∀ e ∈ es,e.2=false∧e.1.1 < 128) :
 Calls Tryz.prog 89 #[.slice A n c] w fun e w'=>e=.returned (.string (stz (chE es)))∧Hid (Below w.heap.size w w'):=by
 have HLn:=hid h.len
 have HW:=hid (h.below (qA2 w (.cells #[.pointer none,.slice none 0 0] 164)))
 have HB0:=hid (qA2 w (.cells #[.pointer none,.slice none 0 0] 164))
 have HBL:Hid (Bld (w.alloc (.cells #[.pointer none,.slice none 0 0] 164)) w.heap.size (.pointer none) (.slice none 0 0) []):=hid ⟨BX.new _ _ _,World.ownsRow_nil _ _ _ _⟩
 have HS:=hid hs
 have hDg:=h.2.1
 clear h hs
 go_enter Tryz.func89,Tryz.ntmps89
 go_upto_region 2 with fail
 generalize w.alloc (.cells #[.pointer none,.slice none 0 0] 164)=W0 at *
 generalize hg:w.heap.size=g at *
 have HGe:=hid hg
 clear hg
 go_wp2
 go_loopw [8] (fun iv wr=>∃ (k:Nat) (p v:Value),k≤n∧iv=.int .i64 (k:Int)∧(p=.pointer none∨p=.pointer (some ⟨g,0,none⟩))∧Bld wr g p v (chE (es.take k))∧Below g W0 wr) (fun iv _=>n - (intOf iv).toNat)
 case atStart=>exact ⟨0,_,_,Nat.zero_le _,rfl,.inl rfl,HBL.out,Below.refl _ _⟩
 case round=>
  obtain ⟨k,p,v,hk,rfl,hp,hbl,hb0⟩:=hrel;have HBl:=hid hbl;have HB:=hid hb0;have HP:=hid hp;have HT:=hid (HW.out.belowD hb0 hDg);clear hbl hb0 hp
  by_cases hlt:k < n
  · have hks:k < es.length:=by rw [HLn.out]; exact hlt
    obtain ⟨ad,rfl,hbk,c0,hz⟩:=HT.out.at_ hlt;rw [qBG hks] at c0 hz;have HTK:=hid (chE_take hks);obtain ⟨hq1,hq2⟩:=HS.out _ (List.getElem_mem hks);have hll:(chE (es.take k)).length≤1000000:=by
     rw [chE,List.length_map,List.length_take]; omega
    generalize es[k]=ek at *;obtain ⟨⟨r,q,a⟩,pd⟩:=ek;obtain ⟨x,rfl,-⟩:=qD4 hz;obtain rfl:pd=false:=hq1;have hx:x < 128:=by dsimp only at hq2; omega
    rw [pE_s] at c0;have h1:=isS_must;have HC:=hid (writeRune_c g p v _ x wr HP.out HBl.out hx hll);clear hz hq2
    go_wp2_with (first
     | (go_at_call 132; refine HC.out.mono ?_; rintro e w1 ⟨rfl,v1,h2,hb2⟩)
     | fail)
    go_roundw
    case rel=>exact ⟨k+1,_,_,by omega,by go_num,.inr rfl,by rw [HTK.out]; exact h2.out,HB.out.trans hb2.out⟩
    case measure=>simp [intOf]; omega
  · obtain rfl:k=n:=by omega
    have hte:es.take k=es:=List.take_of_length_le (by rw [HLn.out]; exact Nat.le_refl _);rw [hte] at HBl;have hlt:∀ y ∈ chE es,y < 256:=by
     intro y hy;obtain ⟨e,he,rfl⟩:=List.mem_map.1 hy;have:=(HS.out e he).2;omega
    have hu:u8s (chE es)=Lib.byteCells ((chE es).map UInt8.ofNat):=by
     unfold u8s Lib.byteCells;rw [List.map_map];refine List.map_congr_left fun y hy=>?_
     have:=hlt y hy;simp only [Function.comp];rw [show (UInt8.ofNat y).toNat=y by simp; omega]
    have hIB:Lib.IsBuilder 164 5 g g (Lib.byteCells ((chE es).map UInt8.ofNat)) wr:=by
     have hone:Lib.BuilderAt 164 5 g g p (Lib.byteCells ((chE es).map UInt8.ofNat)) wr:=by
      refine ⟨Nat.le_refl _,v,HBl.out.bx,?_,?_⟩
      · rw [← hu,qJ2]
        exact qC5 HBl.out.own (Nat.le_succ _)
      · intro e
        have:=(HBl.out.own.lt _ e).1;omega
     rcases HP.out with rfl | rfl
     · exact .inl hone
     · exact .inr hone
    have HC:=hid (Tryz.Builder_String_any g g _ wr hIB (Nat.le_of_lt HBl.out.bx.lt));clear hIB hu hlt hte
    go_wp2_with (first
     | (go_at_call 133; refine HC.out.mono ?_; rintro e w1 ⟨rfl,hb2⟩)
     | fail)
    go_ret
    exact ⟨rfl,hid (HGe.out ▸ HB0.out.trans (HB.out.trans hb2))⟩
theorem padR_no {W:Nat→Int} {i:Nat} {e:El} {l:List El} {a r:Int} (h:e.2=false):padR W i (e :: l) a r=padR W (i+1) l a r:=by
 rw [padR,if_neg (by rw [h]; decide)]
theorem padR_bad {W:Nat→Int} {i:Nat} {e:El} {l:List El} {a r:Int} (h:e.2=true) (hb:W i=0∨a≠0):padR W i (e :: l) a r=((0,0),7,e.1.2.2):=by
 rw [padR,if_pos h,if_pos hb]
theorem padR_ok {W:Nat→Int} {i:Nat} {e:El} {l:List El} {a r:Int} (h:e.2=true) (hb:¬ (W i=0∨a≠0)):padR W i (e :: l) a r=padR W (i+1) l (W i) e.1.1:=by
 rw [padR,if_pos h,if_neg hb]
theorem isP2_yes (W:World) (v:Value):(Instr.typeAssert (.iface 149 v) 111 149 true).run Tryz.prog W=.ok (.tuple #[v,.bool true]) W:=by kernel_rfl
theorem isP2_no (W:World) (v:Value):(Instr.typeAssert (.iface 147 v) 111 149 true).run Tryz.prog W=.ok (.tuple #[.agg #[.int .i32 0,.int .i64 0],.bool false]) W:=by kernel_rfl
set_option maxHeartbeats 4000000 in
theorem padded_c {D:Nat} (v:Value) (b:Int) (l:Bool) (es:List El) (w:World) (h:HfM w D v b l es) (hn:es.length≤1000) :
 Calls Tryz.prog 86 #[v] w fun e w'=>e=.returned (.tuple #[.int .i64 (padZ (!l) es).1.1,.int .i32 (padZ (!l) es).1.2,.agg #[.int .i64 (padZ (!l) es).2.1,.int .i64 (padZ (!l) es).2.2]])∧Hid (Below w.heap.size w w'):=by
 have HM:=hid h
 obtain ⟨A1,n1,c1,A2,n2,c2,A3,n3,c3,rfl,h1,h2,h3,l1,l2,l3⟩:=h
 obtain ⟨N,hN⟩:∃ N,es.length=N:=⟨_,rfl⟩
 have HN:=hid hN
 rw [hN] at hn
 have HWH:=hid (fun (W:World) (hb:Below w.heap.size w W) (i:Nat) (hi:i < N)=>where16_c _ b l es i W (HM.out.below hb) (by rw [hN]; exact hn) (by rw [hN]; exact hi))
 have e1:=h1.len
 have e2:=h2.len
 have e3:=h3.len
 have e4:=hpl es
 rw [e1,e2,e3,hN] at e4
 have hap:allP [(A1,n1,c1,hpre es),(A2,n2,c2,hnum es),(A3,n3,c3,hsuf es)] 3=es:=by
  unfold allP;simp;exact (qBE es).symm
 have htp:totP [(A1,n1,c1,hpre es),(A2,n2,c2,hnum es),(A3,n3,c3,hsuf es)] 3=N:=by
  unfold totP;simp;omega
 generalize hPZ:padZ (!l) es=PZ
 have HPZ:Hid (padR (whr (!l) (hpre es).length ((hpre es).length+(hnum es).length) es.length) 0 es 0 0=PZ):=hid hPZ
 generalize whr (!l) (hpre es).length ((hpre es).length+(hnum es).length) es.length=WH at *
 clear hPZ
 have HX:=hid (BX.new w #[.int .i64 b,.bool l,.slice A1 n1 c1,.slice A2 n2 c2,.slice A3 n3 c3] 77)
 have HB1:=qA2 w (.cells #[.int .i64 b,.bool l,.slice A1 n1 c1,.slice A2 n2 c2,.slice A3 n3 c3] 77)
 have HXF:Hid (BX ((w.alloc (.cells #[.int .i64 b,.bool l,.slice A1 n1 c1,.slice A2 n2 c2,.slice A3 n3 c3] 77)).alloc (.cells #[.int .i64 0,.int .i64 0] 27)) w.heap.size #[.int .i64 b,.bool l,.slice A1 n1 c1,.slice A2 n2 c2,.slice A3 n3 c3] 77∧FB ((w.alloc (.cells #[.int .i64 b,.bool l,.slice A1 n1 c1,.slice A2 n2 c2,.slice A3 n3 c3] 77)).alloc (.cells #[.int .i64 0,.int .i64 0] 27)) (w.heap.size+1) (.int .i64 0) (.int .i64 0)):=
  hid ⟨HX.out.alloc _,by have:=FB.new (w.alloc (.cells #[.int .i64 b,.bool l,.slice A1 n1 c1,.slice A2 n2 c2,.slice A3 n3 c3] 77)) (.int .i64 0) (.int .i64 0); simpa using this⟩
 have HB2:=hid (HB1.alloc (o:=.cells #[.int .i64 0,.int .i64 0] 27) (by simp) )
 clear HB1 HX
 go_enter Tryz.func86,Tryz.ntmps86
 go_upto_region 1 with fail
 generalize (w.alloc (.cells #[.int .i64 b,.bool l,.slice A1 n1 c1,.slice A2 n2 c2,.slice A3 n3 c3] 77)).alloc (.cells #[.int .i64 0,.int .i64 0] 27)=W0 at *
 generalize hg:w.heap.size=g at *
 have HGe:=hid hg
 clear hg
 have d2:=HXF.out.1.c 2
 have d3:=HXF.out.1.c 3
 have d4:=HXF.out.1.c 4
 have HCO:=hid (show Calls Tryz.prog 126 #[.slice (some ⟨W0.heap.size,0,none⟩) 3 3] (W0.alloc (.cells #[.slice A1 n1 c1,.slice A2 n2 c2,.slice A3 n3 c3] 75)) (fun e w'=>
  ∃ A' m c',e=.returned (.slice A' m c')∧Hid (w'.ownsRow (W0.heap.size+1) 111 1 (.slice A' m c') m (es.map pE))∧Hid (Below W0.heap.size W0 w')) by
  have hbn:=qA2 W0 (.cells #[.slice A1 n1 c1,.slice A2 n2 c2,.slice A3 n3 c3] 75);have hbx:=BX.new W0 #[.slice A1 n1 c1,.slice A2 n2 c2,.slice A3 n3 c3] 75;have hbb:Below w.heap.size w (W0.alloc (.cells #[.slice A1 n1 c1,.slice A2 n2 c2,.slice A3 n3 c3] 75)):=by
   rw [HGe.out];exact HB2.out.trans (hbn.mono (Nat.le_of_lt HXF.out.1.lt))
  have:=concat_c D W0.heap.size 3 3 [(A1,n1,c1,hpre es),(A2,n2,c2,hnum es),(A3,n3,c3,hsuf es)] (W0.alloc (.cells #[.slice A1 n1 c1,.slice A2 n2 c2,.slice A3 n3 c3] 75)) rfl (by omega) (by rw [htp]; omega) ⟨hbx.lt,fun j hj=>by
   have:j=0∨j=1∨j=2:=by simp at hj; omega
   rcases this with rfl | rfl | rfl
   · exact ⟨hbx.c 0,h1.below hbb,l1⟩
   · exact ⟨hbx.c 1,h2.below hbb,l2⟩
   · exact ⟨hbx.c 2,h3.below hbb,l3⟩⟩
  rw [hap] at this;refine this.mono ?_;rintro e w' ⟨A',m,c',rfl,ho,hb⟩;refine ⟨A',m,c',rfl,?_,hid (hbn.trans (hb.out.mono (by simp)))⟩
  simpa using ho)
 go_upto_region 2 with (first
  | (go_at_call 126; refine HCO.out.mono ?_; rintro e w1 ⟨A',m,c',rfl,ho,hb1⟩)
  | fail)
 obtain rfl:m=N:=by have:=ho.out.1; rw [List.length_map,hN] at this; omega
 have hz:∀ e ∈ es,isZ e.1.1=true:=by
  intro e he;rw [qBE es] at he
  rcases List.mem_append.1 he with he | he
  · exact h1.z e he
  · rcases List.mem_append.1 he with he | he
    · exact h2.z e he
    · exact h3.z e he
 have HP:Hid (Pls w1 w1.heap.size A' m es):=hid ⟨qB6.of_own ho.out,Nat.le_refl _,by omega,hz⟩
 have HX1:=hid (HXF.out.1.below hb1.out HXF.out.1.lt)
 have HF1:=hid (HXF.out.2.below hb1.out HXF.out.2.lt)
 have HBw1:Hid (Below w.heap.size w w1):=hid (by
  rw [HGe.out];exact HB2.out.trans (hb1.out.mono (Nat.le_of_lt HXF.out.1.lt)))
 clear d2 d3 d4 h1 h2 h3 l1 l2 l3 e1 e2 e3 e4 hap htp HCO hz ho HM
 go_wp2
 go_loopw [2,3,19] (fun s2 s3 iv wr=>∃ (k:Nat) (a r:Int),k≤m∧iv=.int .i64 (k:Int)∧s2=.int .i64 a∧s3=.int .i32 r∧padR WH k (es.drop k) a r=PZ∧Below w1.heap.size w1 wr) (fun _ _ iv _=>m - (intOf iv).toNat)
 case atStart=>exact ⟨0,0,0,Nat.zero_le _,rfl,rfl,rfl,HPZ.out,Below.refl _ _⟩
 case round=>
  obtain ⟨k,a,r,hk,rfl,rfl,rfl,hpz,hb0⟩:=hrel;have HE0:=hid hpz;have HB:=hid hb0;have HT:=hid (HP.out.below hb0);have HX:=hid (HX1.out.below hb0 HX1.out.lt);have HF:=hid (HF1.out.below hb0 HF1.out.lt);have HWk0:=hid (fun (hkm:k < m) (W:World) (hb:Below wr.heap.size wr W)=>HWH.out W (HGe.out ▸ HBw1.out.trans ((hb0.trans (hb.mono hb0.size)).mono HBw1.out.size)) k hkm);clear hpz hb0
  by_cases hlt:k < m
  · have hks:k < es.length:=by rw [HN.out]; exact hlt
    obtain ⟨ad,rfl,hbk,c0,hz⟩:=HT.out.at_ hlt;rw [qBG hks] at c0 hz;have HE1:Hid (padR WH k (es[k] :: es.drop (k+1)) a r=PZ):=hid (by rw [← HE0.out,List.drop_eq_getElem_cons hks]);have HWk1:=hid (HWk0.out hlt);clear HE0 HWk0;generalize es[k]=ek at *;obtain ⟨⟨q,qb,t⟩,pd⟩:=ek
    cases pd
    · rw [pE_s] at c0
      have h1:=isP2_no
      go_wp2
      go_roundw
      case rel=>exact ⟨k+1,a,r,by omega,by go_num,rfl,rfl,by rw [← HE1.out,padR_no rfl],HB.out.alloc HB.out.size _⟩
      case measure=>simp [intOf]; omega
    · rw [pE_p] at c0
      have h1:=isP2_yes;have x0:(wr.alloc (.cells #[.int .i32 q,.int .i64 t] 149)).cell? ⟨g,0,none⟩=some (.int .i64 b):=(HX.out.alloc _).c 0;have x1:(wr.alloc (.cells #[.int .i32 q,.int .i64 t] 149)).cell? ⟨g,1,none⟩=some (.bool l):=(HX.out.alloc _).c 1;have x2:(wr.alloc (.cells #[.int .i32 q,.int .i64 t] 149)).cell? ⟨g,2,none⟩=some (.slice A1 n1 c1):=(HX.out.alloc _).c 2;have x3:(wr.alloc (.cells #[.int .i32 q,.int .i64 t] 149)).cell? ⟨g,3,none⟩=some (.slice A2 n2 c2):=(HX.out.alloc _).c 3;have x4:(wr.alloc (.cells #[.int .i32 q,.int .i64 t] 149)).cell? ⟨g,4,none⟩=some (.slice A3 n3 c3):=(HX.out.alloc _).c 4;have HWk:=hid (HWk1.out _ (qA2 wr (.cells #[.int .i32 q,.int .i64 t] 149)));clear HWk1
      by_cases hw0:WH k=0
      · have HE:=hid (HE1.out.symm.trans (padR_bad rfl (.inl hw0)))
        rw [hw0] at HWk;clear hw0 HE1
        go_wp2_with (first
         | (go_at_call 127; refine HWk.out.mono ?_; rintro e w2 ⟨rfl,hb2⟩; have HBw:=hid ((qA2 wr (.cells #[.int .i32 q,.int .i64 t] 149)).trans (hb2.out.mono (by simp))))
         | (go_at_call 311; refine (pplace_c _ _ _).mono ?_; rintro e w3 ⟨rfl,hb3⟩; have HFq:=hid ((HF.out.below HBw.out HF.out.lt).below hb3 (Nat.lt_of_lt_of_le HF.out.lt HBw.out.size)); have a0:=HFq.out.c0; have a1:=HFq.out.c1; have q0:=HFq.out.fr 0; have q1:=HFq.out.fr 1)
         | fail)
        refine bodyPost_ret (v:=.tuple #[.int .i64 0,.int .i32 0,.agg #[.int .i64 7,.int .i64 t]]) (by simp [results,Tryz.results86,go_sem,a0,a1]) rfl ⟨by rw [HE.out],hid ?_⟩;rw [HGe.out];have h9:=((HB2.out.trans ((hb1.out.trans (HB.out.mono hb1.out.size)).mono (Nat.le_of_lt HXF.out.1.lt))).trans (HBw.out.mono (Nat.le_of_lt HX.out.lt))).trans (hb3.mono (Nat.le_trans (Nat.le_of_lt HX.out.lt) HBw.out.size));exact Below.set2 h9 (Nat.le_succ g) _ _
      · by_cases ha:a=0
        · have HE:=hid (HE1.out.symm.trans (padR_ok rfl (fun e=>e.elim hw0 (fun h=>h ha))))
          have g1:(WH k == 0)=false:=by simpa using hw0
          subst ha;generalize WH k=wk at *;clear hw0 HE1
          go_wp2_with (first
           | (go_at_call 127; refine HWk.out.mono ?_; rintro e w2 ⟨rfl,hb2⟩; have HBw:=hid ((qA2 wr (.cells #[.int .i32 q,.int .i64 t] 149)).trans (hb2.out.mono (by simp))); have y0:=((BX.new wr #[.int .i32 q,.int .i64 t] 149).below hb2.out (BX.new wr #[.int .i32 q,.int .i64 t] 149).lt).c 0)
           | fail)
          go_quiet (fail)
          go_wp2
          go_roundw
          case rel=>exact ⟨k+1,wk,q,by omega,by go_num,rfl,rfl,HE.out.symm,(HB.out.trans (HBw.out.mono HB.out.size)).of_drewN _⟩
          case measure=>simp [intOf]; omega
        · have HE:=hid (HE1.out.symm.trans (padR_bad rfl (.inr ha)))
          have g1:(WH k == 0)=false:=by simpa using hw0
          have g2:(a != 0)=true:=by simpa using ha
          generalize WH k=wk at *;clear hw0 ha HE1
          go_wp2_with (first
           | (go_at_call 127; refine HWk.out.mono ?_; rintro e w2 ⟨rfl,hb2⟩; have HBw:=hid ((qA2 wr (.cells #[.int .i32 q,.int .i64 t] 149)).trans (hb2.out.mono (by simp))))
           | (go_at_call 311; refine (pplace_c _ _ _).mono ?_; rintro e w3 ⟨rfl,hb3⟩; have HFq:=hid ((HF.out.below HBw.out HF.out.lt).below hb3 (Nat.lt_of_lt_of_le HF.out.lt HBw.out.size)); have a0:=HFq.out.c0; have a1:=HFq.out.c1; have q0:=HFq.out.fr 0; have q1:=HFq.out.fr 1)
           | fail)
          refine bodyPost_ret (v:=.tuple #[.int .i64 0,.int .i32 0,.agg #[.int .i64 7,.int .i64 t]]) (by simp [results,Tryz.results86,go_sem,a0,a1]) rfl ⟨by rw [HE.out],hid ?_⟩;rw [HGe.out];have h9:=((HB2.out.trans ((hb1.out.trans (HB.out.mono hb1.out.size)).mono (Nat.le_of_lt HXF.out.1.lt))).trans (HBw.out.mono (Nat.le_of_lt HX.out.lt))).trans (hb3.mono (Nat.le_trans (Nat.le_of_lt HX.out.lt) HBw.out.size));exact Below.set2 h9 (Nat.le_succ g) _ _
  · obtain rfl:k=m:=by omega
    have hde:es.drop k=[]:=List.drop_eq_nil_of_le (by rw [HN.out]; exact Nat.le_refl _);have HE:Hid (PZ=((a,r),0,0)):=hid (by rw [← HE0.out,hde]; rfl);have a0:=HF.out.c0;have a1:=HF.out.c1;have q0:=HF.out.fr 0;have q1:=HF.out.fr 1;clear hde
    go_wp2
    refine bodyPost_ret (v:=.tuple #[.int .i64 a,.int .i32 r,.agg #[.int .i64 0,.int .i64 0]]) (by simp [results,Tryz.results86,go_sem,a0,a1]) rfl ⟨by rw [HE.out],hid ?_⟩;rw [HGe.out];have h9:=HB2.out.trans ((hb1.out.trans (HB.out.mono hb1.out.size)).mono (Nat.le_of_lt HXF.out.1.lt));exact Below.set2 h9 (Nat.le_succ g) _ _
def ofK (k:Int) (i:Itm):Bool:=decide (i.1=k)
set_option maxHeartbeats 1000000 in
theorem hasK_c (a r k:Int) (B:Nat) (w:World) (hB:B < w.heap.size) (hc:w.cell? ⟨B,0,none⟩=some (.int .i64 k)):Calls Tryz.prog 135 #[.agg #[.int .i64 a,.int .i32 r],.pointer (some ⟨B,0,none⟩)] w fun e w'=>
 e=.returned (.bool (ofK k (a,r)))∧Below w.heap.size w w':=by
 have hP:ofK k (a,r)=(a == k):=rfl
 rw [hP]
 clear hP
 have hc2:(w.alloc (.cells #[.int .i64 a,.int .i32 r] 67)).cell? ⟨B,0,none⟩=some (.int .i64 k):=by
  rw [← hc];exact ((Below.refl w.heap.size w).alloc (Nat.le_refl _) _).cell (p:=⟨B,0,none⟩) hB
 clear hc
 go_enter Tryz.func135,Tryz.ntmps135
 go_wp2
 go_ret
 exact ⟨rfl,by go_grown⟩
set_option maxHeartbeats 2000000 in
theorem upToKind_c (k:Int) (B:Nat) (A:Option Addr) (n c:Nat) (is:List Itm) (w:World) (h:Its w A n is) (hc:n≤c) (hB:B < w.heap.size) (hk:w.cell? ⟨B,0,none⟩=some (.int .i64 k)) :
 Calls Tryz.prog 134 #[.slice A n c,.func (.func 135) #[] #[.pointer (some ⟨B,0,none⟩)]] w fun x w'=>
  ∃ A1 n1 c1 A2 n2 c2,x=.returned (.tuple #[.slice A1 n1 c1,.slice A2 n2 c2])∧Hid (0 < n2↔is.any (ofK k)=true)∧Hid (Below w.heap.size w w'):=by
 have HL:=hid h.len
 have hn:=h.2.1
 have H:=hid h
 have HK:=hid hk
 clear h hk
 go_enter Tryz.func134,Tryz.ntmps134
 go_wp2
 go_loopw [10] (fun iv wr=>∃ (k':Nat),k'≤n∧iv=.int .i64 (k':Int)∧(∀ j (hj:j < is.length),j < k'→ofK k is[j]=false)∧Below w.heap.size w wr) (fun iv _=>n - (intOf iv).toNat)
 case atStart=>exact ⟨0,Nat.zero_le _,rfl,fun j _ hj=>absurd hj (by omega),Below.refl _ _⟩
 case round=>
  obtain ⟨k',hk',rfl,hall0,hb0⟩:=hrel;have HA:=hid hall0;have HB:=hid hb0;have HW:=hid (H.out.below hb0);have HKr:=hid ((hb0.cell (p:=⟨B,0,none⟩) hB).trans HK.out);have hBr:B < wr.heap.size:=Nat.lt_of_lt_of_le hB hb0.size;clear hall0 hb0
  by_cases hlt:k' < n
  · have hks:k' < is.length:=by rw [HL.out]; exact hlt
    obtain ⟨ad,rfl,hb,c0,c1,hz⟩:=HW.out.at_ hlt;rw [im_eq hks] at c0 c1 hz;have HP:Hid (ofK k is[k']=ofK k ((is[k']).1,(is[k']).2)):=hid rfl;generalize (is[k']).1=X at c0 hz HP;generalize (is[k']).2=Y at c1 hz HP;generalize hpk:ofK k (X,Y)=pk at HP;have HPK:=hid hpk;clear hpk;have HN:=hid (show ∀ W,Below wr.heap.size wr W→∀ (Q:Bool),ofK k (X,Y)=Q→Calls Tryz.prog 135 #[.agg #[.int .i64 X,.int .i32 Y],.pointer (some ⟨B,0,none⟩)] W fun e w'=>e=.returned (.bool Q)∧Below W.heap.size W w' from
     fun W hbW Q hQ=>by rw [← hQ]; exact hasK_c X Y k B W (Nat.lt_of_lt_of_le hBr hbW.size) ((hbW.cell (p:=⟨B,0,none⟩) hBr).trans HKr.out))
    cases pk
    · go_wp2_with (first
       | (go_at_call 135; refine (HN.out _ (qA2 _ _) _ HPK.out).mono ?_; rintro e w1 ⟨rfl,hb1⟩)
       | fail)
      go_roundw
      case rel=>
       refine ⟨k'+1,by omega,by go_num,fun j hj hjk=>?_,HB.out.trans (((qA2 _ _).trans (hb1.mono (by simp))).mono HB.out.size)⟩
       rcases Nat.lt_or_ge j k' with h1 | h1
       · exact HA.out j hj h1
       · obtain rfl:j=k':=by omega
         rw [HP.out]
      case measure=>simp [intOf]; omega
    · have HT:Hid (is.any (ofK k)=true):=hid (List.any_eq_true.2 ⟨_,List.getElem_mem hks,HP.out⟩)
      go_wp2_with (first
       | (go_at_call 135; refine (HN.out _ (qA2 _ _) _ HPK.out).mono ?_; rintro e w1 ⟨rfl,hb1⟩)
       | fail)
      go_quiet (fail)
      go_wp2
      go_ret2
      rw [HT.out];exact ⟨_,_,_,_,_,_,rfl,hid ⟨fun _=>rfl,fun _=>by omega⟩,hid ((HB.out.trans (((qA2 _ _).trans (hb1.mono (by simp))).mono HB.out.size)).of_drewN _)⟩
  · have hke:k'=n:=by omega
    subst hke;have HT:Hid (is.any (ofK k)=false):=hid (List.any_eq_false.2 fun x hx=>by
     obtain ⟨j,hj,rfl⟩:=List.getElem_of_mem hx;rw [HA.out j hj (by rw [HL.out] at hj; exact hj)]; decide)
    go_wp2
    go_ret2
    rw [HT.out];exact ⟨_,_,_,_,_,_,rfl,hid ⟨fun e=>absurd e (by omega),fun e=>absurd e (by decide)⟩,HB⟩
structure Sls (w:World) (g:Nat) (L:List (Option Addr × Nat × Nat × List Itm)):Prop where
 lt:g < w.heap.size
 at_:∀ j (h:j < L.length),w.cell? ⟨g,j,none⟩=some (.slice L[j].1 L[j].2.1 L[j].2.2.1)∧Its w L[j].1 L[j].2.1 L[j].2.2.2∧L[j].2.1≤L[j].2.2.1
theorem Sls.below {w w':World} {g:Nat} {L:List (Option Addr × Nat × Nat × List Itm)} (h:Sls w g L) (hb:Below w.heap.size w w'):Sls w' g L:=
 ⟨Nat.lt_of_lt_of_le h.lt hb.size,fun j hj=>by
  obtain ⟨h1,h2,h3⟩:=h.at_ j hj;exact ⟨(hb.cell (p:=⟨g,j,none⟩) h.lt).trans h1,h2.below hb,h3⟩⟩
set_option maxHeartbeats 2000000 in
theorem oneHas_c (k:Int) (g n c:Nat) (L:List (Option Addr × Nat × Nat × List Itm)) (w:World) (hL:L.length=n) (hn:n≤1000) (h:Sls w g L) :
 Calls Tryz.prog 90 #[.int .i64 k,.slice (some ⟨g,0,none⟩) n c] w fun x w'=>x=.returned (.bool (L.any fun s=>s.2.2.2.any (ofK k)))∧Below w.heap.size w w':=by
 have HL:=hid hL
 have hgt:=h.lt
 have HS:=hid (h.below (qA2 w (.cells #[.int .i64 k] 3)))
 have HBX:=hid (BX.new w #[.int .i64 k] 3)
 have HB0:=hid (qA2 w (.cells #[.int .i64 k] 3))
 clear h hL
 go_enter Tryz.func90,Tryz.ntmps90
 go_upto_region 1 with fail
 have hsz:w.heap.size < (w.alloc (.cells #[.int .i64 k] 3)).heap.size:=by simp
 generalize w.alloc (.cells #[.int .i64 k] 3)=W0 at *
 generalize hB:w.heap.size=B at *
 have HBe:=hid hB
 clear hB
 go_wp2
 go_loopw [11] (fun iv wr=>∃ (j:Nat),j≤n∧iv=.int .i64 (j:Int)∧(∀ i (hi:i < L.length),i < j→(L[i].2.2.2.any (ofK k))=false)∧Below W0.heap.size W0 wr) (fun iv _=>n - (intOf iv).toNat)
 case atStart=>exact ⟨0,Nat.zero_le _,rfl,fun i _ hi=>absurd hi (by omega),Below.refl _ _⟩
 case round=>
  obtain ⟨j,hj,rfl,hall0,hb0⟩:=hrel;have HA:=hid hall0;have HB:=hid hb0;have HSr:=hid (HS.out.below hb0);have HBr:=hid (HBX.out.below hb0 hsz);clear hall0 hb0
  by_cases hlt:j < n
  · have hjs:j < L.length:=by rw [HL.out]; exact hlt
    obtain ⟨c0,hits,hcap⟩:=HSr.out.at_ j hjs;have HC:=hid (fun W (hbW:Below wr.heap.size wr W)=>upToKind_c k B _ _ _ _ W (hits.below hbW) hcap (Nat.lt_of_lt_of_le HBr.out.lt hbW.size) ((hbW.cell (p:=⟨B,0,none⟩) HBr.out.lt).trans (HBr.out.c 0)));have HI:Hid (L[j].2.2.2.any (ofK k)=L[j].2.2.2.any (ofK k)):=hid rfl;clear hits hcap;generalize L[j].1=X1 at *;generalize L[j].2.1=X2 at *;generalize L[j].2.2.1=X3 at *;generalize hx:L[j].2.2.2.any (ofK k)=X4 at *;have HX:=hid hx;clear hx HI
    cases X4
    · go_wp2_with (first
       | (go_at_call 134; refine (HC.out _ (Below.refl _ _)).mono ?_; rintro e w1 ⟨A1,n1,c1,A2,n2,c2,rfl,hd,hb1⟩; obtain rfl:n2=0:=by have:=hd.out; simpa using this)
       | fail)
      go_roundw
      case rel=>
       refine ⟨j+1,by omega,by go_num,fun i hi hij=>?_,HB.out.trans (hb1.out.mono HB.out.size)⟩
       rcases Nat.lt_or_ge i j with h1 | h1
       · exact HA.out i hi h1
       · obtain rfl:i=j:=by omega
         exact HX.out
      case measure=>simp [intOf]; omega
    · go_wp2_with (first
       | (go_at_call 134; refine (HC.out _ (Below.refl _ _)).mono ?_; rintro e w1 ⟨A1,n1,c1,A2,n2,c2,rfl,hd,hb1⟩; have hd2:0 < n2:=hd.out.2 rfl)
       | fail)
      go_ret
      have HT:(L.any fun s=>s.2.2.2.any (ofK k))=true:=List.any_eq_true.2 ⟨_,List.getElem_mem hjs,HX.out⟩;rw [HT];exact ⟨rfl,HBe.out ▸ HB0.out.trans ((HB.out.trans (hb1.out.mono HB.out.size)).mono (Nat.le_of_lt hsz))⟩
  · have hje:j=n:=by omega
    subst hje;have HT:(L.any fun s=>s.2.2.2.any (ofK k))=false:=List.any_eq_false.2 fun x hx=>by
     obtain ⟨i,hi,rfl⟩:=List.getElem_of_mem hx;rw [HA.out i hi (by rw [HL.out] at hi; exact hi)]; decide
    go_wp2
    go_ret
    rw [HT];exact ⟨rfl,HBe.out ▸ HB0.out.trans (HB.out.mono (Nat.le_of_lt hsz))⟩
structure Aff (w:World) (PV:Array Value) (i0 i1 i3 i4:List Itm):Prop where
 sz:(Tryz.prog.info? 24).map (·.size)=some PV.size
 s0:∃ A n c,PV[0]? = some (.slice A n c)∧Its w A n i0∧n≤c
 s1:∃ A n c,PV[1]? = some (.slice A n c)∧Its w A n i1∧n≤c
 s3:∃ A n c,PV[3]? = some (.slice A n c)∧Its w A n i3∧n≤c
 s4:∃ A n c,PV[4]? = some (.slice A n c)∧Its w A n i4∧n≤c
theorem Aff.below {w w':World} {PV:Array Value} {i0 i1 i3 i4:List Itm} (h:Aff w PV i0 i1 i3 i4) (hb:Below w.heap.size w w'):Aff w' PV i0 i1 i3 i4:=by
 obtain ⟨sz,⟨A0,n0,c0,e0,h0,l0⟩,⟨A1,n1,c1,e1,h1,l1⟩,⟨A3,n3,c3,e3,h3,l3⟩,⟨A4,n4,c4,e4,h4,l4⟩⟩:=h
 exact ⟨sz,⟨A0,n0,c0,e0,h0.below hb,l0⟩,⟨A1,n1,c1,e1,h1.below hb,l1⟩,⟨A3,n3,c3,e3,h3.below hb,l3⟩,⟨A4,n4,c4,e4,h4.below hb,l4⟩⟩
def anyK (k:Int) (i0 i1 i3 i4:List Itm):Bool:=i0.any (ofK k) || (i1.any (ofK k) || (i3.any (ofK k) || i4.any (ofK k)))
set_option maxHeartbeats 2000000 in
theorem qGK (k:Int) (PV:Array Value) (i0 i1 i3 i4:List Itm) (w:World) (h:Aff w PV i0 i1 i3 i4) :
 Calls Tryz.prog 50 #[.int .i64 k,.agg PV] w fun x w'=>x=.returned (.bool (anyK k i0 i1 i3 i4))∧Below w.heap.size w w':=by
 have HAF:=hid h
 obtain ⟨hsz,⟨A0,n0,c0,e0,-,-⟩,⟨A1,n1,c1,e1,-,-⟩,⟨A3,n3,c3,e3,-,-⟩,⟨A4,n4,c4,e4,-,-⟩⟩:=h
 have HE:=hid (And.intro e0 (And.intro e1 (And.intro e3 e4)))
 have hbx0:=BX.new w PV 24
 have HB0:=hid (qA2 w (.cells PV 24))
 have HAW:=hid (HAF.out.below HB0.out)
 clear e0 e1 e3 e4 hsz
 go_enter Tryz.func50,Tryz.ntmps50
 go_upto_region 1 with fail
 generalize w.alloc (.cells PV 24)=W at *
 generalize hg:w.heap.size=g at *
 have HGe:=hid hg
 have HLE:=hid (show g≤W.heap.size from hg ▸ HB0.out.size)
 clear hg
 have d0:=(hbx0.c 0).trans HE.out.1
 have d1:=(hbx0.c 1).trans HE.out.2.1
 have d3:=(hbx0.c 3).trans HE.out.2.2.1
 have d4:=(hbx0.c 4).trans HE.out.2.2.2
 have HC:Hid (Calls Tryz.prog 90 #[.int .i64 k,.slice (some ⟨W.heap.size,0,none⟩) 4 4] (W.alloc (.cells #[.slice A0 n0 c0,.slice A1 n1 c1,.slice A3 n3 c3,.slice A4 n4 c4] 22)) fun x w'=>x=.returned (.bool (anyK k i0 i1 i3 i4))∧Below (W.alloc (.cells #[.slice A0 n0 c0,.slice A1 n1 c1,.slice A3 n3 c3,.slice A4 n4 c4] 22)).heap.size (W.alloc (.cells #[.slice A0 n0 c0,.slice A1 n1 c1,.slice A3 n3 c3,.slice A4 n4 c4] 22)) w'):=hid (by
  obtain ⟨-,⟨X0,m0,l0,f0,g0,z0⟩,⟨X1,m1,l1,f1,g1,z1⟩,⟨X3,m3,l3,f3,g3,z3⟩,⟨X4,m4,l4,f4,g4,z4⟩⟩:=HAW.out;have r0:=HE.out.1.symm.trans f0;have r1:=HE.out.2.1.symm.trans f1;have r3:=HE.out.2.2.1.symm.trans f3;have r4:=HE.out.2.2.2.symm.trans f4;simp only [Option.some.injEq,Value.slice.injEq] at r0 r1 r3 r4;obtain ⟨rfl,rfl,rfl⟩:=r0;obtain ⟨rfl,rfl,rfl⟩:=r1;obtain ⟨rfl,rfl,rfl⟩:=r3;obtain ⟨rfl,rfl,rfl⟩:=r4;have hn:=BX.new W #[.slice A0 n0 c0,.slice A1 n1 c1,.slice A3 n3 c3,.slice A4 n4 c4] 22;have hb:=qA2 W (.cells #[.slice A0 n0 c0,.slice A1 n1 c1,.slice A3 n3 c3,.slice A4 n4 c4] 22);have:=oneHas_c k W.heap.size 4 4 [(A0,n0,c0,i0),(A1,n1,c1,i1),(A3,n3,c3,i3),(A4,n4,c4,i4)] _ rfl (by omega) ⟨hn.lt,fun j hj=>by
   have:j=0∨j=1∨j=2∨j=3:=by simp at hj; omega
   rcases this with rfl | rfl | rfl | rfl
   · exact ⟨hn.c 0,g0.below hb,z0⟩
   · exact ⟨hn.c 1,g1.below hb,z1⟩
   · exact ⟨hn.c 2,g3.below hb,z3⟩
   · exact ⟨hn.c 3,g4.below hb,z4⟩⟩
  refine this.mono ?_;rintro e w' ⟨rfl,hb'⟩;exact ⟨by simp [anyK],hb'⟩)
 have HBn:=hid (qA2 W (.cells #[.slice A0 n0 c0,.slice A1 n1 c1,.slice A3 n3 c3,.slice A4 n4 c4] 22))
 clear hbx0
 go_wp2_with (first
  | (go_at_call 90; refine HC.out.mono ?_; rintro e w' ⟨rfl,hb⟩)
  | fail)
 go_ret
 exact ⟨rfl,HGe.out ▸ HB0.out.trans ((HBn.out.trans (hb.mono HBn.out.size)).mono HLE.out)⟩
end Go.Proofs.YtnoeonaajefajaaGreatDoor
