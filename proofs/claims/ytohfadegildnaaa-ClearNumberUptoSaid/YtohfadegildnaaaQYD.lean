import Derived.Test.YtohfadegildnaaaQYA
import Derived.Test.YtohfadegildnaaaQYC
set_option linter.all false
set_option maxRecDepth 100000
namespace Go.Proofs.Ytohfadegildnaaa
open Go.RowKit Go.ChangeMaps
open Lib (hid)
def itT (tx:Nat→ByteArray) (i:Itm):List Nat:=if i.1=1 then encN i.2.toNat else bts (tx (i.1.toNat - 2))
def txI (tx:Nat→ByteArray) (is:List Itm):List Nat:=is.flatMap (itT tx)
theorem txI_append (tx:Nat→ByteArray) (is js:List Itm):txI tx (is++js)=txI tx is++txI tx js:=by simp [txI]
theorem qH3 (tx:Nat→ByteArray) (x:Nat):itT tx (1,(x:Int))=encN x:=by simp [itT]
theorem qF6 (tx:Nat→ByteArray) (j:Nat) (r:Int):itT tx ((j:Int)+2,r)=bts (tx j):=by
 rw [itT,if_neg (by omega),show ((j:Int)+2).toNat - 2=j by omega]
theorem qDM {i:Itm} (h:mayI i=true):(∃ x:Nat,isC x=true∧i=(1,(x:Int)))∨∃ j:Nat,j < 5∧i=((j:Int)+2,0):=by
 obtain ⟨k,r⟩:=i
 rcases qC3.1 h with ⟨rfl,hz⟩ | ⟨h2,h6,rfl⟩
 · obtain ⟨h0,_⟩:=qAQ.1 hz
   refine .inl ⟨r.toNat,?_,by rw [Int.toNat_of_nonneg h0]⟩;rw [← qBR,Int.toNat_of_nonneg h0]; exact hz
 · exact .inr ⟨(k - 2).toNat,by omega,by rw [show (((k - 2).toNat:Nat):Int)+2=k by omega]⟩
theorem itT_len {tx:Nat→ByteArray} (hs:∀ j,j < 5→(tx j).size≤1000) {i:Itm} (h:mayI i=true):(itT tx i).length≤1000∧∀ y ∈ itT tx i,y < 256:=by
 rcases qDM h with ⟨x,hx,rfl⟩ | ⟨j,hj,rfl⟩
 · rw [qH3]
   exact ⟨by have:=qGD x; omega,qBS hx⟩
 · rw [qF6,qA0]
   exact ⟨hs j hj,qAF _⟩
theorem qFX {tx:Nat→ByteArray} (hs:∀ j,j < 5→(tx j).size≤1000):∀ {is:List Itm},is.all mayI=true→(txI tx is).length≤1000 * is.length∧∀ y ∈ txI tx is,y < 256
 | [],_=>⟨Nat.zero_le _,fun y hy=>by cases hy⟩
 | i :: is,h=>by
  simp only [List.all_cons,Bool.and_eq_true] at h;obtain ⟨h1,h2⟩:=itT_len hs h.1;obtain ⟨h3,h4⟩:=qFX hs h.2;have e:txI tx (i :: is)=itT tx i++txI tx is:=by simp [txI]
  rw [e];refine ⟨by rw [List.length_append,List.length_cons]; omega,fun y hy=>?_⟩
  rcases List.mem_append.1 hy with hy | hy
  · exact h2 y hy
  · exact h4 y hy
theorem txI_take {tx:Nat→ByteArray} {is:List Itm} {k:Nat} (h:k < is.length):txI tx (is.take (k+1))=txI tx (is.take k)++itT tx (im is k):=by
 rw [List.take_succ_eq_append_getElem h,txI_append]
 simp [txI,im,List.getD,List.getElem?_eq_getElem h]
theorem may_take {is:List Itm} (h:is.all mayI=true) (k:Nat):(is.take k).all mayI=true:=List.all_eq_true.2 fun x hx=>List.all_eq_true.1 h x (List.mem_of_mem_take hx)
theorem may_im {is:List Itm} (h:is.all mayI=true) {k:Nat} (hk:k < is.length):mayI (im is k)=true:=List.all_eq_true.1 h _ (by simp [im,List.getD,List.getElem?_eq_getElem hk])
theorem sign_field (x:Value) (w:World):(Instr.field 92 (.agg #[x]) 0).run Try.prog w=.ok x w:=by kernel_rfl
attribute [local go_sem] sign_field in
set_option maxHeartbeats 4000000 in
theorem symText_c (z:Int) (d g mi pl pc pm cu e:ByteArray) (A:Option Addr) (n c:Nat) (is:List Itm) (w:World) (h:Its w A n is) (hn:n≤200) (hs:∀ j,j < 5→(tx5 mi pl pc pm cu j).size≤1000) :
 Calls Try.prog 21 #[.agg #[.int .i32 z,.string d,.string g,.string mi,.string pl,.string pc,.string pm,.string cu,.string e],.slice A n c] w fun e' w'=>
 e'=.returned (.string (stz (if is.all mayI then txI (tx5 mi pl pc pm cu) is else [])))∧Hid (Below w.heap.size w w'):=by
 generalize hL:(if is.all mayI then txI (tx5 mi pl pc pm cu) is else [])=L
 have HL:=hid hL
 clear hL
 have HLn:=hid h.len
 have HX:Hid (BXS (w.alloc (.cells #[.int .i32 z,.string d,.string g,.string mi,.string pl,.string pc,.string pm,.string cu,.string e] 23)) w.heap.size z d g mi pl pc pm cu e):=hid (BX.new _ _ _)
 have hB:Below w.heap.size w (w.alloc (.cells #[.int .i32 z,.string d,.string g,.string mi,.string pl,.string pc,.string pm,.string cu,.string e] 23)):=(Below.refl _ _).alloc (Nat.le_refl _) _
 have HGW:=hid hB.size
 have HI:=hid (h.below hB)
 have HB0:=hid hB
 clear h hB
 go_enter Try.func21,Try.ntmps21
 go_upto_region 1 with fail
 generalize w.alloc (.cells #[.int .i32 z,.string d,.string g,.string mi,.string pl,.string pc,.string pm,.string cu,.string e] 23)=W0 at *
 generalize hG:w.heap.size=G at *
 have HG:=hid hG
 clear hG
 have C1:=hid (affTokens_c A n c is W0 HI.out (by omega))
 have HTL:Hid (is.all mayI=true→(tksI is).length=n):=hid fun hm=>by rw [tksI_may hm,List.length_map]; exact HLn.out
 have HTN:Hid (is.all mayI=false→(tksI is).length=0∧0 < n):=hid fun hm=>by
  refine ⟨by rw [tksI_no hm]; rfl,?_⟩
  rcases Nat.eq_zero_or_pos n with h0 | h0
  · have hl:=HLn.out
    rw [h0] at hl;rw [List.eq_nil_of_length_eq_zero hl] at hm
    cases hm
  · exact h0
 rcases hm:is.all mayI with _ | _
 · obtain ⟨q1,q2⟩:=HTN.out hm
   clear HTL HTN;have g1:decide (0 < n)=true:=decide_eq_true q2;have g2:=q2;have HQ:=hid q1;have HL1:=HL.out;rw [hm,if_neg (by decide)] at HL1;subst HL1;clear q1 q2 hm HL
   go_wp2_with (first
    | (go_at_call 37; refine C1.out.mono ?_; rintro e1 w1 ⟨A1,m1,c1,rfl,ho1,hb1⟩; obtain rfl:0=m1:=HQ.out.symm.trans ho1.out.len)
    | fail)
   go_ret
   exact ⟨rfl,hid (by rw [HG.out]; exact HB0.out.trans (hb1.out.mono HGW.out))⟩
 · have q1:=HTL.out hm
   clear HTL HTN;have g1:decide ((n:Int) < (n:Int))=false:=decide_eq_false (by omega);have HQ:=hid q1;have HM:=hid hm;have HL1:=HL.out;rw [hm,if_pos rfl] at HL1;subst HL1;clear q1 hm HL
   go_upto_region 3 with (first
    | (go_at_call 37; refine C1.out.mono ?_; rintro e1 w1 ⟨A1,m1,c1,rfl,ho1,hb1⟩; obtain rfl:n=m1:=HQ.out.symm.trans ho1.out.len)
    | fail)
   have HI1:=hid (HI.out.below hb1.out);have HX1:=hid (HX.out.below hb1.out HX.out.lt);have HB1:=hid (HB0.out.trans (hb1.out.mono HGW.out));have HGW1:=hid (Nat.le_trans HGW.out hb1.out.size);clear ho1 hb1 C1;have d0:=HX1.out.c 0;have d1:=HX1.out.c 1;have d2:=HX1.out.c 2;have d3:=HX1.out.c 3;have d4:=HX1.out.c 4;have d5:=HX1.out.c 5;have d6:=HX1.out.c 6;have d7:=HX1.out.c 7;have d8:=HX1.out.c 8;have CS:=hid (symSigns_c z d g mi pl pc pm cu e w1)
   go_upto_region 4 with (first
    | (go_at_call 38; refine CS.out.mono ?_; rintro e2 w2 ⟨mb,rfl,h2⟩)
    | fail)
   clear d0 d1 d2 d3 d4 d5 d6 d7 d8 CS HX HX1;have HM2:=hid h2.out.1;have HMl:=hid h2.out.2.2.1;have HI2:=hid (HI1.out.below h2.out.2.2.2);have HB2:=hid (HB1.out.trans (h2.out.2.2.2.mono HGW1.out));have HBL:Hid (Bld (w2.alloc (.cells #[.pointer none,.slice none 0 0] 85)) w2.heap.size (.pointer none) (.slice none 0 0) []):=hid ⟨BX.new _ _ _,World.ownsRow_nil _ _ _ _⟩;have HBW:=hid ((Below.refl w2.heap.size w2).alloc (Nat.le_refl _) (.cells #[.pointer none,.slice none 0 0] 85));clear h2 HI1 HB1 HI HB0
   go_upto_region 5 with fail
   generalize w2.alloc (.cells #[.pointer none,.slice none 0 0] 85)=W3 at *;generalize hgb:w2.heap.size=gb at *;have HGB:=hid hgb;clear hgb
   go_wp2
   go_loopw [19] (fun iv wr=>∃ (k:Nat) (p v:Value),k≤n∧iv=.int .i64 (k:Int)∧(p=.pointer none∨p=.pointer (some ⟨gb,0,none⟩))∧Bld wr gb p v (txI (tx5 mi pl pc pm cu) (is.take k))∧Below gb w2 wr) (fun iv _=>n - (intOf iv).toNat)
   case atStart=>exact ⟨0,_,_,Nat.zero_le _,rfl,.inl rfl,HBL.out,HBW.out⟩
   case round=>
    obtain ⟨k,p,v,hk,rfl,hp,hbl,hb0⟩:=hrel;have HBl:=hid hbl;have HB:=hid hb0;have HP:=hid hp;have HT:=hid (HI2.out.below (w':=wr) (by rw [HGB.out]; exact hb0));have HMr:=hid (HM2.out.below hb0 HMl.out);clear hbl hb0 hp
    by_cases hlt:k < n
    · have gi:decide ((k:Int) < (n:Int))=true:=decide_eq_true (by omega)
      have hks:k < is.length:=by rw [HLn.out]; exact hlt
      obtain ⟨ad,rfl,hab,x0,x1,_⟩:=HT.out.at_ hlt;have HTK:=hid (txI_take (tx:=tx5 mi pl pc pm cu) hks);have HTL:=hid (qFX (tx:=tx5 mi pl pc pm cu) hs (may_take HM.out k)).1;have hll:(txI (tx5 mi pl pc pm cu) (is.take k)).length≤1000000:=by
       have:=HTL.out;rw [List.length_take] at this;omega
      rcases qDM (may_im HM.out hks) with ⟨x,hx,he⟩ | ⟨j,hj,he⟩
      · rw [he] at x0 x1 HTK
        rw [qH3] at HTK;dsimp only at x0 x1;have HC:=hid (fun (W:World) (h:Bld W gb p v (txI (tx5 mi pl pc pm cu) (is.take k)))=>wRune_c gb p v (txI (tx5 mi pl pc pm cu) (is.take k)) x W HP.out h hx hll);have HBa:=hid (HB.out.alloc (Nat.le_of_lt HBl.out.bx.lt) (.cells #[.int .i64 1,.int .i32 (x:Int)] 57));have HBb:Hid (Bld (wr.alloc (.cells #[.int .i64 1,.int .i32 (x:Int)] 57)) gb p v (txI (tx5 mi pl pc pm cu) (is.take k))):=hid ⟨HBl.out.bx.alloc _,HBl.out.own.alloc _⟩;clear he hll hx
        go_wp2_with (first
         | (go_at_call 39; refine (HC.out _ HBb.out).mono ?_; rintro e3 w3 ⟨rfl,v3,h3,hb3⟩)
         | fail)
        go_roundw
        case rel=>exact ⟨k+1,_,_,by omega,by go_num,.inr rfl,by rw [HTK.out]; exact h3.out,HBa.out.trans hb3.out⟩
        case measure=>simp [intOf]; omega
      · rw [he] at x0 x1 HTK
        rw [qF6] at HTK;dsimp only at x0 x1;have HC:=hid (fun (W:World) (h:Bld W gb p v (txI (tx5 mi pl pc pm cu) (is.take k)))=>wStr_c gb p v (txI (tx5 mi pl pc pm cu) (is.take k)) (tx5 mi pl pc pm cu j) W HP.out h (Nat.le_trans (hs j hj) (by decide)) hll);have HBa:=hid (HB.out.alloc (Nat.le_of_lt HBl.out.bx.lt) (.cells #[.int .i64 ((j:Int)+2),.int .i32 0] 57));have HBb:Hid (Bld (wr.alloc (.cells #[.int .i64 ((j:Int)+2),.int .i32 0] 57)) gb p v (txI (tx5 mi pl pc pm cu) (is.take k))):=hid ⟨HBl.out.bx.alloc _,HBl.out.own.alloc _⟩;have hgl:=HMr.out.below ((Below.refl wr.heap.size wr).alloc (Nat.le_refl _) (.cells #[.int .i64 ((j:Int)+2),.int .i32 0] 57)) HMr.out.lt;have hlk:=hgl.get hj;have gk:((j:Int)+2 == 1)=false:=by simp; omega
        clear he hll hgl
        go_wp2_with (first
         | (go_at_call 40; refine (HC.out _ HBb.out).mono ?_; rintro e3 w3 ⟨rfl,v3,h3,hb3⟩)
         | fail)
        go_roundw
        case rel=>exact ⟨k+1,_,_,by omega,by go_num,.inr rfl,by rw [HTK.out]; exact h3.out,HBa.out.trans hb3.out⟩
        case measure=>simp [intOf]; omega
    · obtain rfl:k=n:=by omega
      have gi:decide ((k:Int) < (k:Int))=false:=decide_eq_false (by omega);have hte:is.take k=is:=List.take_of_length_le (by rw [HLn.out]; exact Nat.le_refl _);rw [hte] at HBl;have HC:=hid (bStr_c gb p v _ wr HP.out HBl.out (qFX (tx:=tx5 mi pl pc pm cu) hs HM.out).2);clear hte hlt
      go_wp2_with (first
       | (go_at_call 41; refine HC.out.mono ?_; rintro e3 w3 ⟨rfl,hb3⟩)
       | fail)
      go_ret
      have hz:=HB2.out.size;have h1:=HGB.out;have h2:=HG.out;exact ⟨rfl,hid (by rw [HG.out]; exact HB2.out.trans ((HB.out.trans hb3).mono (by omega)))⟩
end Go.Proofs.Ytohfadegildnaaa
