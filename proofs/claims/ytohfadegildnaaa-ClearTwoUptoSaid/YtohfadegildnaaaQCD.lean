import Derived.Test.YtohfadegildnaaaQCB
import Derived.Test.YtohfadegildnaaaQUI
import Derived.Test.YtohfadegildnaaaQYF
set_option linter.all false
set_option maxRecDepth 100000
set_option linter.unusedVariables false
namespace Go.Proofs.Ytohfadegildnaaa
open Go.RowKit
open Lib (hid)
theorem qDI (z:Int) (d g mi pl pc pm cu e:ByteArray) (A:Option Addr) (n c:Nat) (is:List Itm) (w:World) (h:Its w A n is) (hn:n≤200) (hs:∀ j,j < 5→(tx5 mi pl pc pm cu j).size≤1000) (hm:is.all mayI=true) :
 Calls Try.prog 22 #[.agg #[.int .i32 z,.string d,.string g,.string mi,.string pl,.string pc,.string pm,.string cu,.string e],.slice A n c] w fun e' w'=>e'=.returned (.string (txtI (tx5 mi pl pc pm cu) is))∧Hid (Below w.heap.size w w'):=by
 exact refText18_c z d g mi pl pc pm cu e A n c is w h hn hs hm
set_option maxHeartbeats 4000000 in
theorem qE4 (PV:Array Value) (p:Pt) (z:Int) (d g mi pl pc pm cu e:ByteArray) (neg:Bool) (w:World) (h:Ptv w PV p) (ha:Afx p) (hs:∀ j,j < 5→(tx5 mi pl pc pm cu j).size≤1000) :
 Calls Try.prog 10 #[.agg PV,.agg #[.int .i32 z,.string d,.string g,.string mi,.string pl,.string pc,.string pm,.string cu,.string e],.bool neg] w fun e' w'=>e'=.returned (.tuple #[.string (txtI (tx5 mi pl pc pm cu) (if neg then p.npre else p.pre)),.string (txtI (tx5 mi pl pc pm cu) (if neg then p.nsuf else p.suf))])∧Hid (Below w.heap.size w w'):=by
 have hss:(Try.prog.info? 23).map (·.size)=some (#[.int .i32 z,.string d,.string g,.string mi,.string pl,.string pc,.string pm,.string cu,.string e]:Array Value).size:=by kernel_rfl
 have HX:=hid (PS.new w PV #[.int .i32 z,.string d,.string g,.string mi,.string pl,.string pc,.string pm,.string cu,.string e])
 obtain ⟨A0,n0,c0,A1,n1,c1,A3,n3,c3,A4,n4,c4,hpv,h0,h1,h3,h4⟩:=h
 have HV:Hid (PV[0]? = some (.slice A0 n0 c0)∧PV[1]? = some (.slice A1 n1 c1)∧PV[3]? = some (.slice A3 n3 c3)∧PV[4]? = some (.slice A4 n4 c4)):=hid (by rw [hpv]; exact ⟨rfl,rfl,rfl,rfl⟩)
 have C0:=hid (fun W (x:PS w W w.heap.size PV #[.int .i32 z,.string d,.string g,.string mi,.string pl,.string pc,.string pm,.string cu,.string e])=>qDI z d g mi pl pc pm cu e A0 n0 c0 p.pre W (h0.below x.bl) (by have:=ha.a.2; have:=h0.len; omega) hs ha.a.1)
 have C1:=hid (fun W (x:PS w W w.heap.size PV #[.int .i32 z,.string d,.string g,.string mi,.string pl,.string pc,.string pm,.string cu,.string e])=>qDI z d g mi pl pc pm cu e A1 n1 c1 p.suf W (h1.below x.bl) (by have:=ha.b.2; have:=h1.len; omega) hs ha.b.1)
 have C3:=hid (fun W (x:PS w W w.heap.size PV #[.int .i32 z,.string d,.string g,.string mi,.string pl,.string pc,.string pm,.string cu,.string e])=>qDI z d g mi pl pc pm cu e A3 n3 c3 p.npre W (h3.below x.bl) (by have:=ha.c.2; have:=h3.len; omega) hs ha.c.1)
 have C4:=hid (fun W (x:PS w W w.heap.size PV #[.int .i32 z,.string d,.string g,.string mi,.string pl,.string pc,.string pm,.string cu,.string e])=>qDI z d g mi pl pc pm cu e A4 n4 c4 p.nsuf W (h4.below x.bl) (by have:=ha.d.2; have:=h4.len; omega) hs ha.d.1)
 clear hpv h0 h1 h3 h4 ha hs
 cases neg
 case false=>
  show Calls _ _ _ w fun e' w'=>e'=.returned (.tuple #[.string (txtI (tx5 mi pl pc pm cu) p.pre),.string (txtI (tx5 mi pl pc pm cu) p.suf)])∧_
  go_enter Try.func10,Try.ntmps10
  go_upto_region 3 with fail
  generalize (w.alloc (.cells PV 26)).alloc (.cells #[.int .i32 z,.string d,.string g,.string mi,.string pl,.string pc,.string pm,.string cu,.string e] 23)=W at *;generalize hgb:w.heap.size=b at *;have HGB:=hid hgb;clear hgb;refine wp_region_held_drew (S:=(fun W':World=>(W'.cell? ⟨b,0,none⟩=some (.slice A0 n0 c0)∧W'.cell? ⟨b,1,none⟩=some (.slice A1 n1 c1))∧Hid (PS w W' b PV #[.int .i32 z,.string d,.string g,.string mi,.string pl,.string pc,.string pm,.string cu,.string e]))) (by kernel_rfl) (⟨⟨(HX.out.bp.c 0).trans HV.out.1,(HX.out.bp.c 1).trans HV.out.2.1⟩,hid HX.out.drew⟩) (fun hHeld=>?_);refine ql 0 hHeld (fun _ h=>h.2.out.bs) Try.underlying23 hss ?_
  try simp only [pk]
  refine' qt 1 hHeld ?_
  try simp only [pk]
  refine' qt 2 hHeld ?_
  try simp only [pk]
  refine ql 4 hHeld (fun _ h=>h.2.out.bs) Try.underlying23 hss ?_
  try simp only [pk]
  refine' qt 5 hHeld ?_
  try simp only [pk]
  refine' qt 6 hHeld ?_
  try simp only [pk]
  refine qk 3 (C0.out _ hHeld.2.out) (fun W' h=>PS.keep hHeld h.out) fun W9 hHeld _=>?_
  try simp only [pk]
  refine qk 7 (C1.out _ hHeld.2.out) (fun W' h=>PS.keep hHeld h.out) fun W9 hHeld _=>?_
  try simp only [pk]
  refine' qt 8 hHeld ?_
  try simp only [pk]
  refine' qt 9 hHeld ?_
  try simp only [pk]
  refine wpAnyH_done (by kernel_rfl) ?_ _
  go_wp2
  go_ret2
  exact ⟨rfl,hid (by rw [HGB.out]; exact hHeld.2.out.bl)⟩
 case true=>
  show Calls _ _ _ w fun e' w'=>e'=.returned (.tuple #[.string (txtI (tx5 mi pl pc pm cu) p.npre),.string (txtI (tx5 mi pl pc pm cu) p.nsuf)])∧_
  go_enter Try.func10,Try.ntmps10
  go_upto_region 2 with fail
  generalize (w.alloc (.cells PV 26)).alloc (.cells #[.int .i32 z,.string d,.string g,.string mi,.string pl,.string pc,.string pm,.string cu,.string e] 23)=W at *;generalize hgb:w.heap.size=b at *;have HGB:=hid hgb;clear hgb;refine wp_region_held_drew (S:=(fun W':World=>(W'.cell? ⟨b,3,none⟩=some (.slice A3 n3 c3)∧W'.cell? ⟨b,4,none⟩=some (.slice A4 n4 c4))∧Hid (PS w W' b PV #[.int .i32 z,.string d,.string g,.string mi,.string pl,.string pc,.string pm,.string cu,.string e]))) (by kernel_rfl) (⟨⟨(HX.out.bp.c 3).trans HV.out.2.2.1,(HX.out.bp.c 4).trans HV.out.2.2.2⟩,hid HX.out.drew⟩) (fun hHeld=>?_);refine ql 0 hHeld (fun _ h=>h.2.out.bs) Try.underlying23 hss ?_
  try simp only [pk]
  refine' qt 1 hHeld ?_
  try simp only [pk]
  refine' qt 2 hHeld ?_
  try simp only [pk]
  refine ql 4 hHeld (fun _ h=>h.2.out.bs) Try.underlying23 hss ?_
  try simp only [pk]
  refine' qt 5 hHeld ?_
  try simp only [pk]
  refine' qt 6 hHeld ?_
  try simp only [pk]
  refine qk 3 (C3.out _ hHeld.2.out) (fun W' h=>PS.keep hHeld h.out) fun W9 hHeld _=>?_
  try simp only [pk]
  refine qk 7 (C4.out _ hHeld.2.out) (fun W' h=>PS.keep hHeld h.out) fun W9 hHeld _=>?_
  try simp only [pk]
  refine' qt 8 hHeld ?_
  try simp only [pk]
  refine' qt 9 hHeld ?_
  try simp only [pk]
  refine wpAnyH_done (by kernel_rfl) ?_ _
  go_wp2
  go_ret2
  exact ⟨rfl,hid (by rw [HGB.out]; exact hHeld.2.out.bl)⟩
theorem qH7 (s t:ByteArray) (w:World) (hs:s.size≤1000000) (ht:t.size≤1000000):Calls Try.prog 28 #[.string s,.string t] w fun e w'=>e=.returned (.bool (sfx s t))∧w'=w:=by
 have HE:=hid (sfx_eq s t)
 by_cases h:t.size≤s.size
 · have g1:decide ((t.size:Int)≤(s.size:Int))=true:=decide_eq_true (by omega)
   have b1:IntKind.i64.wrap ((s.size:Int) - (t.size:Int))=((s.size - t.size:Nat):Int):=by rw [IntWalk.i64_in _ (by omega)]; omega
   have b2:s.size - t.size≤s.size:=Nat.sub_le _ _
   go_enter Try.func28,Try.ntmps28
   go_wp2
   go_ret
   refine ⟨qA5 ?_,rfl⟩;rw [HE.out,decide_eq_true h]; rfl
 · have g1:decide ((t.size:Int)≤(s.size:Int))=false:=decide_eq_false (by omega)
   go_enter Try.func28,Try.ntmps28
   go_wp2
   go_ret
   refine ⟨qA5 ?_,rfl⟩;rw [HE.out,decide_eq_false h]; rfl
def hasZ (s:ByteArray) (zs:List Int):Bool:=(ints (cps (bts s))).any fun x=>zs.any fun z=>decide (x=z)
set_option maxHeartbeats 2000000 in
theorem qDJ (s:ByteArray) (A:Option Addr) (n c:Nat) (zs:List Int) (w:World) (hs:s.size≤1000000) (hv:Vt s) (h:Rns w A n zs) (hn:n≤1000) :
 Calls Try.prog 13 #[.string s,.slice A n c] w fun e w'=>e=.returned (.bool (hasZ s zs))∧Below w.heap.size w w':=by
 have c1:=qEO s w (by omega)
 rw [(qGJ hv).2] at c1
 have hxl:(ints (cps (bts s))).length≤1000000:=by
  have h2:=pts_len (qAF s);rw [(qGJ hv).2,qA0] at h2;rw [ints_length]; omega
 have C1:=hid c1
 have HXL:=hid hxl
 have HI:=hid h
 have HLn:=hid h.len
 clear h hv c1 hxl
 unfold hasZ
 generalize ints (cps (bts s))=xs at *
 go_enter Try.func13,Try.ntmps13
 go_wp2_with (first
  | (go_at_call 19; refine C1.out.mono ?_; rintro e w1 ⟨B,m,cB,rfl,ho,hb⟩)
  | fail)
 have HB:=hid hb
 have HR:=hid ho.rns
 have HLm:=hid ho.len
 have hm:m≤1000000:=by rw [← ho.len]; exact HXL.out
 have HI1:=hid (HI.out.below hb)
 clear ho hb C1 HI
 go_loopw [7,8] (fun v _ wr=>∃ k:Nat,k≤m∧v=.int .i64 (k:Int)∧Hid (∀ x ∈ xs.take k,zs.any (fun z=>decide (x=z))=false)∧Hid (Below w1.heap.size w1 wr)) (fun v _ _=>m - (intOf v).toNat)
 case atStart=>exact ⟨0,Nat.zero_le _,rfl,hid (fun x hx=>by cases hx),hid (Below.refl _ _)⟩
 case round=>
  obtain ⟨k,hk,rfl,HN,HBr⟩:=hrel
  by_cases hlt:k < m
  · have gi:decide ((k:Int) < (m:Int))=true:=decide_eq_true (by omega)
    have gj:(k:Int) < (m:Int):=by omega
    obtain ⟨ad,rfl,hab,hc,_,_⟩:=HR.out.at_ hlt;have hkl:k < xs.length:=by rw [HLm.out]; exact hlt
    have HTk:=hid (List.take_succ_eq_append_getElem hkl);have HEx:Hid (xs[k] ∈ xs):=hid (List.getElem_mem hkl);rw [show xs.getD k 0=xs[k] by simp [List.getD,List.getElem?_eq_getElem hkl]] at hc;have HC:=hid hc;have HA:Hid ((ad.add k).block < w1.heap.size):=hid (by unfold Addr.add; split <;> exact hab);clear hc hab;generalize xs[k]=x at *
    go_wp2
    go_loopw [8] (fun v W2=>∃ j:Nat,j≤n∧v=.int .i64 (j:Int)∧Hid (∀ z ∈ zs.take j,¬ x=z)∧Hid (Below w1.heap.size w1 W2)) (fun v _=>n - (intOf v).toNat)
    case atStart=>exact ⟨0,Nat.zero_le _,rfl,hid (fun x hx=>by cases hx),HBr⟩
    case round=>
     obtain ⟨j,hj,rfl,HM,HBj⟩:=hrel
     by_cases hlj:j < n
     · have gk:decide ((j:Int) < (n:Int))=true:=decide_eq_true (by omega)
       have gl:(j:Int) < (n:Int):=by omega
       have hc:=(HBj.out.cell (p:=ad.add k) HA.out).trans HC.out;obtain ⟨bd,rfl,_,hd,_,_⟩:=(HI1.out.below HBj.out).at_ hlj;have hjl:j < zs.length:=by rw [HLn.out]; exact hlj
       have HTj:=hid (List.take_succ_eq_append_getElem hjl);have HEz:Hid (zs[j] ∈ zs):=hid (List.getElem_mem hjl);rw [show zs.getD j 0=zs[j] by simp [List.getD,List.getElem?_eq_getElem hjl]] at hd;generalize zs[j]=z at *
       by_cases hxz:x=z
       · subst hxz
         have gx:(x == x)=true:=beq_self_eq_true x
         go_wp2
         go_quiet (fail)
         go_wp2
         go_ret
         exact ⟨qA5 (List.any_eq_true.2 ⟨x,HEx.out,List.any_eq_true.2 ⟨x,HEz.out,decide_eq_true rfl⟩⟩).symm,(HB.out.trans (HBj.out.mono HB.out.size)).of_drewN _⟩
       · have gx:(x == z)=false:=beq_eq_false_iff_ne.2 hxz
         have HXZ:=hid hxz;clear hxz
         go_wp2
         go_quiet (fail)
         go_wp2
         go_roundw
         case rel=>exact ⟨j+1,by omega,by go_num,hid (fun y hy=>by rw [HTj.out] at hy; rcases List.mem_append.1 hy with h1 | h1; exact HM.out y h1; rw [List.mem_singleton] at h1; rw [h1]; exact HXZ.out),hid (HBj.out.of_drewN _)⟩
         case measure=>simp [intOf]; omega
     · have gk:decide ((j:Int) < (n:Int))=false:=decide_eq_false (by omega)
       have gl:¬ (j:Int) < (n:Int):=by omega
       go_wp2
       go_roundw
       case rel=>
        refine ⟨k+1,by omega,by go_num,hid (fun y hy=>?_),HBj⟩;rw [HTk.out] at hy
        rcases List.mem_append.1 hy with h1 | h1
        · exact HN.out y h1
        · rw [List.mem_singleton] at h1
          rw [h1];exact List.any_eq_false.2 fun z hz=>by
           have:=HM.out z (by rw [List.take_of_length_le (by rw [HLn.out]; omega)]; exact hz);rw [decide_eq_false this]; decide
       case measure=>simp [intOf]; omega
  · have gi:decide ((k:Int) < (m:Int))=false:=decide_eq_false (by omega)
    have gj:¬ (k:Int) < (m:Int):=by omega
    go_wp2
    go_ret
    refine ⟨qA5 ?_,HB.out.trans (HBr.out.mono HB.out.size)⟩;exact (List.any_eq_false.2 fun x hx=>by rw [HN.out x (by rw [List.take_of_length_le (by rw [HLm.out]; omega)]; exact hx)]; decide).symm
def digK (Z k:Nat):List Int:=(List.range k).map fun j:Nat=>(Z:Int)+(j:Int)
theorem digK_succ (Z k:Nat):digK Z (k+1)=digK Z k++[(Z:Int)+(k:Int)]:=by simp [digK,List.range_succ]
theorem digK_any (Z c:Nat):(digK Z 10).any (fun z=>decide ((c:Int)=z))=inS Z c:=by
 rw [Bool.eq_iff_iff,List.any_eq_true,qH1]
 constructor
 · rintro ⟨z,hz,h⟩
   obtain ⟨j,hj,rfl⟩:=List.mem_map.1 hz;have:=List.mem_range.1 hj;have:=of_decide_eq_true h;omega
 · rintro ⟨h1,h2⟩
   exact ⟨(Z:Int)+((c - Z:Nat):Int),List.mem_map.2 ⟨c - Z,List.mem_range.2 (by omega),rfl⟩,decide_eq_true (by omega)⟩
theorem any_or {α:Type} (f g:α→Bool):∀ l:List α,l.any (fun x=>f x || g x)=(l.any f || l.any g)
 | []=>rfl
 | x :: l=>by simp only [List.any_cons,any_or f g l]; cases f x <;> cases g x <;> cases l.any f <;> rfl
theorem any_and {α:Type} (b:Bool) (f:α→Bool):∀ l:List α,l.any (fun x=>b && f x)=(b && l.any f)
 | []=>by cases b <;> rfl
 | x :: l=>by simp only [List.any_cons,any_and b f l]; cases b <;> rfl
theorem qG9 (Z:Nat) (t:ByteArray):hasZ t (digK Z 10)=(cps (bts t)).any (inS Z):=by
 unfold hasZ ints
 rw [List.any_map]
 exact congrArg (fun f=>(cps (bts t)).any f) (funext fun c=>digK_any Z c)
theorem hasZ_one (x:Int) (t:ByteArray):hasZ t [x]=(cps (bts t)).any (fun r=>decide ((r:Int)=x)):=by
 unfold hasZ ints
 rw [List.any_map]
 exact congrArg (fun f=>(cps (bts t)).any f) (funext fun c=>by simp)
theorem nfr_eq (Z:Nat) (at_ pad:Int) (t:ByteArray):nfr Z at_ pad t=(hasZ t (digK Z 10) || (decide (at_≠0) && hasZ t [pad])):=by
 rw [qG9,hasZ_one,← any_and,← any_or]; rfl
theorem hasZ_enc (Z:Nat) {pad:Nat} (h:isC pad=true):hasZ (stz (encN pad)) (digK Z 10)=inS Z pad:=by
 have h1:encs [pad]=encN pad:=qEY pad
 have h2:allC [pad]=true:=qAR.2 ⟨h,rfl⟩
 rw [qG9,qAS (by rw [← h1]; exact qGG h2),← h1,cps_encs h2]
 simp
theorem vt_enc {pad:Nat} (h:isC pad=true):Vt (stz (encN pad)):=by
 have h1:encs [pad]=encN pad:=qEY pad
 have h2:allC [pad]=true:=qAR.2 ⟨h,rfl⟩
 show rst (bts (stz (encN pad)))=[]
 rw [qAS (by rw [← h1]; exact qGG h2),← h1,rst_encs h2]
theorem qEX (W:World) (x:Int) (h : -2147483648≤x∧x≤2147483647):Rns (W.alloc (.cells #[.int .i32 x] 21)) (some ⟨W.heap.size,0,none⟩) 1 [x]:=
 OwnR.rns (base:=W.heap.size) (c:=1) ⟨World.ownsRow_lit (size:=1) W #[.int .i32 x] 1 (Nat.le_refl _) (by unfold maxLen; omega) rfl,by decide,fun z hz=>by rw [List.mem_singleton] at hz; subst hz; exact h⟩
set_option maxHeartbeats 8000000 in
theorem refClear_c (PV:Array Value) (p:Pt) (Z pad:Nat) (d g mi pl pc pm cu e:ByteArray) (w:World) (h:Ptv w PV p) (ha:Afx p) (hg:qD1 (Z:Int) (tx8 d g mi pl pc pm cu e)=true) (hat:0≤p.at_) (hpad:p.pad=(pad:Int)) (hp2:isC pad=true) (hsz:(Try.prog.info? 26).map (·.size)=some PV.size) :
 Calls Try.prog 12 #[.agg PV,.agg #[.int .i32 (Z:Int),.string d,.string g,.string mi,.string pl,.string pc,.string pm,.string cu,.string e]] w fun e' w'=>e'=.returned (.bool (clr Z p.at_ p.pad (txtI (tx5 mi pl pc pm cu) p.pre) (txtI (tx5 mi pl pc pm cu) p.suf) (txtI (tx5 mi pl pc pm cu) p.npre) (txtI (tx5 mi pl pc pm cu) p.nsuf) d g mi pl e))∧Below w.heap.size w w':=by
 have hzb:=qBP.1 (qAA.1 hg).2
 have hss:(Try.prog.info? 23).map (·.size)=some (#[.int .i32 (Z:Int),.string d,.string g,.string mi,.string pl,.string pc,.string pm,.string cu,.string e]:Array Value).size:=by kernel_rfl
 have hs:=qBI hg
 obtain ⟨v5,vd,vg,vm,vp,ve⟩:=good_vt hg
 have hsys:=(qAA.1 hg).2
 obtain ⟨va,na⟩:=qBL v5 hs ha.a.1
 obtain ⟨vb,nb⟩:=qBL v5 hs ha.b.1
 obtain ⟨vc,nc⟩:=qBL v5 hs ha.c.1
 obtain ⟨ve',ne⟩:=qBL v5 hs ha.d.1
 have ra:=ha.a.2
 have rb:=ha.b.2
 have rc:=ha.c.2
 have rd:=ha.d.2
 have f17:PV[17]? = some (.int .i64 p.at_)∧PV[18]? = some (.int .i32 p.pad):=by obtain ⟨A0,n0,c0,A1,n1,c1,A3,n3,c3,A4,n4,c4,hpv,h0,h1,h3,h4⟩:=h; rw [hpv]; exact ⟨rfl,rfl⟩
 have CPf:Hid (∀ W',PS w W' w.heap.size PV #[.int .i32 (Z:Int),.string d,.string g,.string mi,.string pl,.string pc,.string pm,.string cu,.string e]→Calls Try.prog 10 #[.agg PV,.agg #[.int .i32 (Z:Int),.string d,.string g,.string mi,.string pl,.string pc,.string pm,.string cu,.string e],.bool false] W' fun e' w'=>e'=.returned (.tuple #[.string (txtI (tx5 mi pl pc pm cu) p.pre),.string (txtI (tx5 mi pl pc pm cu) p.suf)])∧Hid (Below W'.heap.size W' w')):=hid fun W' x=>qE4 PV p Z d g mi pl pc pm cu e false W' (h.below x.bl) ha hs
 have CPt:Hid (∀ W',PS w W' w.heap.size PV #[.int .i32 (Z:Int),.string d,.string g,.string mi,.string pl,.string pc,.string pm,.string cu,.string e]→Calls Try.prog 10 #[.agg PV,.agg #[.int .i32 (Z:Int),.string d,.string g,.string mi,.string pl,.string pc,.string pm,.string cu,.string e],.bool true] W' fun e' w'=>e'=.returned (.tuple #[.string (txtI (tx5 mi pl pc pm cu) p.npre),.string (txtI (tx5 mi pl pc pm cu) p.nsuf)])∧Hid (Below W'.heap.size W' w')):=hid fun W' x=>qE4 PV p Z d g mi pl pc pm cu e true W' (h.below x.bl) ha hs
 have hta:(txtI (tx5 mi pl pc pm cu) p.pre).size≤41000:=by omega
 have htc:(txtI (tx5 mi pl pc pm cu) p.npre).size≤41000:=by omega
 have htb:(txtI (tx5 mi pl pc pm cu) p.suf).size≤41000:=by omega
 have hte:(txtI (tx5 mi pl pc pm cu) p.nsuf).size≤41000:=by omega
 have hd16:d.size≤16:=(qAG.1 ((qAA.1 hg).1 0 (by omega))).2.1
 have HS9:Hid (∀ x ∈ [txtI (tx5 mi pl pc pm cu) p.pre,txtI (tx5 mi pl pc pm cu) p.suf,txtI (tx5 mi pl pc pm cu) p.npre,txtI (tx5 mi pl pc pm cu) p.nsuf,d,g,mi,pl,e],x.size≤41000):=hid (by
  have h1:=(qAG.1 ((qAA.1 hg).1 1 (by omega))).2.1;have h2:=(qAG.1 ((qAA.1 hg).1 2 (by omega))).2.1;have h3:=(qAG.1 ((qAA.1 hg).1 3 (by omega))).2.1;have h7:=(qAG.1 ((qAA.1 hg).1 7 (by omega))).2.1
  change g.size≤16 at h1; change mi.size≤16 at h2; change pl.size≤16 at h3; change e.size≤16 at h7
  intro x hx;simp only [List.mem_cons,List.not_mem_nil,or_false] at hx
  rcases hx with rfl | rfl | rfl | rfl | rfl | rfl | rfl | rfl | rfl <;> omega)
 clear na nb nc ne ra rb rc rd v5 ha h
 rw [hpad] at f17 ⊢
 generalize txtI (tx5 mi pl pc pm cu) p.pre=ta at *
 generalize txtI (tx5 mi pl pc pm cu) p.suf=tb at *
 generalize txtI (tx5 mi pl pc pm cu) p.npre=tc at *
 generalize txtI (tx5 mi pl pc pm cu) p.nsuf=te at *
 generalize p.at_=at_ at *
 have HVT:Hid (∀ t ∈ [ta,tb,tc,te,d,g,mi,pl,e],Vt t):=hid (by
  intro x hx;simp only [List.mem_cons,List.not_mem_nil,or_false] at hx
  rcases hx with rfl | rfl | rfl | rfl | rfl | rfl | rfl | rfl | rfl <;> assumption)
 have CI:=hid (fun W'=>qBB pad W' hp2)
 have HPE:=hid (hasZ_enc Z hp2)
 have HVE:=hid (vt_enc hp2)
 have HLE:Hid (∀ y ∈ encN pad,y < 256):=hid (by rw [← qEY]; exact qGG (qAR.2 ⟨hp2,rfl⟩))
 have HSE:Hid ((stz (encN pad)).size≤1000000):=hid (by rw [qAK]; rcases qAU pad with ⟨-,h⟩ | ⟨-,-,h⟩ | ⟨-,-,h⟩ | ⟨-,h⟩ <;> rw [h] <;> simp)
 have hpl:=qD3 hp2
 have HNF:=hid (fun t=>nfr_eq Z at_ (pad:Int) t)
 have CA:=hid (fun W'=>qH7 ta d W' (by omega) (by omega))
 have CB:=hid (fun W'=>qH7 tc d W' (by omega) (by omega))
 have f18:=f17.2
 have gq:decide (0 < at_)=decide (at_≠0):=by by_cases h:at_=0 <;> simp [h] ; omega
 have HC:Hid (clr Z at_ (pad:Int) ta tb tc te d g mi pl e=(!([ta,tb,tc,te,d,g,mi,pl,e].any (nfr Z at_ (pad:Int))) && (!(decide (at_≠0) && inS Z pad) && ((!decide (bts ta=bts tc) || !decide (bts tb=bts te)) && (!sfx ta d && (!sfx tc d && (!decide (bts g=bts d) && !decide (bts pl=bts mi)))))))):=hid rfl
 have exac:(ta.toList == tc.toList)=decide (bts ta=bts tc):=qAD ta tc
 have exbe:(tb.toList == te.toList)=decide (bts tb=bts te):=qAD tb te
 have exgd:(g.toList == d.toList)=decide (bts g=bts d):=qAD g d
 have expm:(pl.toList == mi.toList)=decide (bts pl=bts mi):=qAD pl mi
 generalize decide (at_≠0)=xQ at *
 generalize inS Z pad=xI at *
 generalize decide (bts ta=bts tc)=xac at *
 generalize decide (bts tb=bts te)=xbe at *
 generalize sfx ta d=xsa at *
 generalize sfx tc d=xsc at *
 generalize decide (bts g=bts d)=xgd at *
 generalize decide (bts pl=bts mi)=xpm at *
 have nxac:(ta.toList != tc.toList) = !xac:=by rw [bne,exac]
 have nxbe:(tb.toList != te.toList) = !xbe:=by rw [bne,exbe]
 have nxgd:(g.toList != d.toList) = !xgd:=by rw [bne,exgd]
 have nxpm:(pl.toList != mi.toList) = !xpm:=by rw [bne,expm]
 have HEQ:=hid (And.intro gq (And.intro exac (And.intro exbe (And.intro nxgd (And.intro nxpm (And.intro exgd expm))))))
 clear gq exac exbe exgd expm nxac nxbe nxgd nxpm
 clear hg hat hpad hp2 vd vg vm vp ve va vb vc ve' hs hta htb htc hte hd16
 have HX:=hid (PS.new w PV #[.int .i32 (Z:Int),.string d,.string g,.string mi,.string pl,.string pc,.string pm,.string cu,.string e])
 go_enter Try.func12,Try.ntmps12
 go_upto_region 1 with fail
 generalize (w.alloc (.cells PV 26)).alloc (.cells #[.int .i32 (Z:Int),.string d,.string g,.string mi,.string pl,.string pc,.string pm,.string cu,.string e] 23)=W at *
 generalize hgb:w.heap.size=b at *
 have HGB:=hid hgb
 clear hgb
 go_wp2_with (first
  | (refine wpList_load_row rfl 26 _ rfl b rfl 26 PV (0,0) _ (by first | exact HX2.out.bp | exact HX1.out.bp | exact HX.out.bp) Try.underlying26 rfl hsz ?_)
  | (refine wpList_load_row rfl 23 _ rfl (b+1) rfl 23 #[.int .i32 (Z:Int),.string d,.string g,.string mi,.string pl,.string pc,.string pm,.string cu,.string e] (0,0) _ (by first | exact HX2.out.bs | exact HX1.out.bs | exact HX.out.bs) Try.underlying23 rfl hss ?_)
  | fail)
 refine (CPf.out _ HX.out).mono ?_
 rintro e1 w1 ⟨rfl,hb1⟩
 have HX1:=hid (HX.out.below hb1.out)
 clear hb1 CPf HX
 go_wp2_with (first
  | (refine wpList_load_row rfl 26 _ rfl b rfl 26 PV (0,0) _ (by first | exact HX2.out.bp | exact HX1.out.bp | exact HX.out.bp) Try.underlying26 rfl hsz ?_)
  | (refine wpList_load_row rfl 23 _ rfl (b+1) rfl 23 #[.int .i32 (Z:Int),.string d,.string g,.string mi,.string pl,.string pc,.string pm,.string cu,.string e] (0,0) _ (by first | exact HX2.out.bs | exact HX1.out.bs | exact HX.out.bs) Try.underlying23 rfl hss ?_)
  | fail)
 refine (CPt.out _ HX1.out).mono ?_
 rintro e2 w2 ⟨rfl,hb2⟩
 have HX2:=hid (HX1.out.below hb2.out)
 clear hb2 CPt HX1
 have k0:=HX2.out.bs.c 0
 have k1:=HX2.out.bs.c 1
 have k2:=HX2.out.bs.c 2
 have k3:=HX2.out.bs.c 3
 have k4:=HX2.out.bs.c 4
 have k8:=HX2.out.bs.c 8
 go_wp2_with fail
 generalize hG2:w2.heap.size=G at *
 have HG2:=hid hG2
 clear hG2
 go_loopw [9,10] (fun v iv wr=>∃ k:Nat,k≤10∧iv=.int .i32 (k:Int)∧Hid (wr.ownsRow G 21 1 v k (i32s (digK Z k)))∧Hid (Below G w2 wr)) (fun _ iv _=>10 - (intOf iv).toNat)
 case atStart=>exact ⟨0,by omega,rfl,hid (World.ownsRow_nil _ _ _ _),hid (by rw [← HG2.out]; exact Below.refl _ _)⟩
 case round=>
  obtain ⟨k,hk,rfl,HO,HB⟩:=hrel;have HXr:=hid (HX2.out.below (by rw [HG2.out]; exact HB.out));have hgs:G≤wr.heap.size:=by have:=HB.out.size; have:=HG2.out; omega
  have c0:=HXr.out.bs.c 0
  by_cases hlt:k < 10
  · have gi:decide ((k:Int) < 10)=true:=decide_eq_true (by omega)
    have gw:IntKind.i32.wrap ((Z:Int)+(k:Int))=(Z:Int)+(k:Int):=IntWalk.i32_in _ (by omega);have gs:IntKind.i32.wrap ((k:Int)+1)=(k:Int)+1:=IntWalk.i32_in _ (by omega)
    go_wp2_with (at_builtin; go_must (refine qDQ rfl (.tmp 29) (.tmp 34) _ rfl Try.underlying39 G _ k _ rfl HO.out _ rfl ((Z:Int)+(k:Int)) rfl (by omega) HB.out hgs ?_))
    intro v' w' ho1 hb1 _
    go_wp2
    go_roundw
    case rel=>exact ⟨k+1,by omega,by go_num,hid (by rw [digK_succ]; exact ho1.out),hb1⟩
    case measure=>simp [intOf]; omega
  · obtain rfl:k=10:=by omega
    clear c0;obtain ⟨A,c,hA⟩:=qAN HO.out;subst hA;have HRN:Hid (Rns wr A 10 (digK Z 10)):=hid (OwnR.rns (base:=G) (c:=c) ⟨HO.out,by decide,fun z hz=>by
     obtain ⟨j,hj,rfl⟩:=List.mem_map.1 hz;have:=List.mem_range.1 hj;omega⟩)
    clear HO;have k0:=HXr.out.bs.c 0;have k1:=HXr.out.bs.c 1;have k2:=HXr.out.bs.c 2;have k3:=HXr.out.bs.c 3;have k4:=HXr.out.bs.c 4;have k8:=HXr.out.bs.c 8
    go_upto_region 9 with fail
    clear k0 k1 k2 k3 k4 k8 hzb hsys hgs;have HT9:=hid (tls_lit9 wr ta tb tc te d g mi pl e);have bA:=(Below.refl wr.heap.size wr).alloc (Nat.le_refl _) (.cells #[.string ta,.string tb,.string tc,.string te,.string d,.string g,.string mi,.string pl,.string e] 9);have HX3:=hid (HXr.out.below bA);have HR3:=hid (HRN.out.below bA);clear bA HXr HRN HB HX2;generalize wr.alloc (.cells #[.string ta,.string tb,.string tc,.string te,.string d,.string g,.string mi,.string pl,.string e] 9)=W3 at *;generalize wr.heap.size=q at *;generalize (⟨q,0,none⟩:Addr)=ra at *;have HTL:Hid ([ta,tb,tc,te,d,g,mi,pl,e].length=9):=hid rfl;generalize [ta,tb,tc,te,d,g,mi,pl,e]=TX at *;rw [show ((10:Nat):Int)=10 from rfl]
    go_loopw [12,52] (fun _ iv wr=>∃ k:Nat,k≤9∧iv=.int .i64 (k:Int)∧Hid (∀ x ∈ TX.take k,nfr Z at_ (pad:Int) x=false)∧Hid (Below W3.heap.size W3 wr)) (fun _ iv _=>9 - (intOf iv).toNat)
    case atStart=>exact ⟨0,by omega,rfl,hid (fun x hx=>by cases hx),hid (Below.refl _ _)⟩
    case round=>
     obtain ⟨k,hk,rfl,HN,HB5⟩:=hrel;have HX5:=hid (HX3.out.below HB5.out);have HR5:=hid (HR3.out.below HB5.out)
     by_cases hlt:k < 9
     · have gi:decide ((k:Int) < 9)=true:=decide_eq_true (by omega)
       have gj:(k:Int) < 9:=by omega
       have hkl:k < TX.length:=by rw [HTL.out]; exact hlt
       obtain ⟨ad,had,hc⟩:=(HT9.out.below HB5.out).at_ hlt hkl
       cases had
       have HTk:=hid (List.take_succ_eq_append_getElem hkl);have HEx:Hid (TX[k] ∈ TX):=hid (List.getElem_mem hkl);have hx1:TX[k].size≤41000:=HS9.out _ HEx.out;have hx2:Vt TX[k]:=HVT.out _ HEx.out;have HNx:=hid (HNF.out TX[k]);generalize TX[k]=x at *;have CH1:=hid (qDJ x A 10 c (digK Z 10) wr (by omega) hx2 HR5.out (by omega));have CH2:=hid (fun W=>qDJ x (some ⟨W.heap.size,0,none⟩) 1 1 [(pad:Int)] (W.alloc (.cells #[.int .i32 (pad:Int)] 21)) (by omega) hx2 (qEX W pad (by omega)) (by omega));generalize hasZ x (digK Z 10)=h1 at *;generalize hasZ x [(pad:Int)]=h2 at *;clear hx1 hx2
       go_wp2_with fail
       refine CH1.out.mono ?_;rintro e6 w6 ⟨rfl,hb6⟩;have HX6:=hid (HX5.out.below hb6);have HB6:=hid (HB5.out.trans (hb6.mono HB5.out.size));clear hb6 CH1 hc HX5 HR5;have c17:=HX6.out.p 17 f17.1;have c18:=HX6.out.p 18 f17.2;have gq:=HEQ.out.1
       cases h1
       case true=>
        go_wp2_with (first | go_skip | fail)
        go_ret
        exact ⟨qA5 (by rw [HC.out,List.any_eq_true.2 ⟨x,HEx.out,by rw [HNx.out]; rfl⟩]; rfl),by rw [HGB.out]; exact HX6.out.bl⟩
       case false=>
        cases xQ
        case false=>
         go_wp2_with (first | go_skip | fail)
         go_roundw
         case rel=>exact ⟨k+1,by omega,by go_num,hid (fun y hy=>by rw [HTk.out] at hy; rcases List.mem_append.1 hy with h1 | h1; exact HN.out y h1; rw [List.mem_singleton] at h1; rw [h1,HNx.out]; rfl),HB6⟩
         case measure=>simp [intOf]; omega
        case true=>
         go_wp2_with (first | go_skip | fail)
         refine (CH2.out _).mono ?_;rintro e7 w7 ⟨rfl,hb7⟩;have hb8:=((Below.refl w6.heap.size w6).alloc (Nat.le_refl _) (.cells #[.int .i32 (pad:Int)] 21));have HX7:=hid ((HX6.out.below hb8).below hb7);have HB7:=hid (HB6.out.trans ((hb8.trans (hb7.mono hb8.size)).mono HB6.out.size));clear hb7 hb8 CH2 c17 c18
         cases h2
         case true=>
          go_wp2_with (first | go_skip | fail)
          go_ret
          exact ⟨qA5 (by rw [HC.out,List.any_eq_true.2 ⟨x,HEx.out,by rw [HNx.out]; rfl⟩]; rfl),by rw [HGB.out]; exact HX7.out.bl⟩
         case false=>
          go_wp2_with (first | go_skip | fail)
          go_roundw
          case rel=>exact ⟨k+1,by omega,by go_num,hid (fun y hy=>by rw [HTk.out] at hy; rcases List.mem_append.1 hy with h1 | h1; exact HN.out y h1; rw [List.mem_singleton] at h1; rw [h1,HNx.out]; rfl),HB7⟩
          case measure=>simp [intOf]; omega
     · obtain rfl:k=9:=by omega
       have HF:Hid (TX.any (nfr Z at_ (pad:Int))=false):=hid (List.any_eq_false.2 fun x hx=>by rw [HN.out x (by rw [List.take_of_length_le (by rw [HTL.out]; exact Nat.le_refl 9)]; exact hx)]; decide);clear HN HT9 HR3 HX3 HNF HS9 HVT;have c17:=HX5.out.p 17 f17.1;have c18:=HX5.out.p 18 f17.2;obtain ⟨gq,exac,exbe,nxgd,nxpm,exgd,expm⟩:=HEQ.out;clear HEQ
       cases xQ
       case false=>
        have k0:=HX5.out.bs.c 0;have k1:=HX5.out.bs.c 1;have k2:=HX5.out.bs.c 2;have k3:=HX5.out.bs.c 3;have k4:=HX5.out.bs.c 4;have k8:=HX5.out.bs.c 8
        cases xac
        case false=>
         cases xsa
         case false=>
          cases xsc
          case false=>
           cases xgd
           case false=>
            go_wp2_with (first
             | (go_at_call 28; (first | (refine (CA.out _).mono ?_; rintro e6 w6 ⟨rfl,rfl⟩; clear CA) | (refine (CB.out _).mono ?_; rintro e7 w7 ⟨rfl,rfl⟩)))
             | go_skip
             | fail)
            go_ret
            exact ⟨qA5 (by rw [HC.out,HF.out]; rfl),by rw [HGB.out]; exact HX5.out.bl⟩
           case true=>
            go_wp2_with (first
             | (go_at_call 28; (first | (refine (CA.out _).mono ?_; rintro e6 w6 ⟨rfl,rfl⟩; clear CA) | (refine (CB.out _).mono ?_; rintro e7 w7 ⟨rfl,rfl⟩)))
             | go_skip
             | fail)
            go_ret
            exact ⟨qA5 (by rw [HC.out,HF.out]; rfl),by rw [HGB.out]; exact HX5.out.bl⟩
          case true=>
           go_wp2_with (first
            | (go_at_call 28; (first | (refine (CA.out _).mono ?_; rintro e6 w6 ⟨rfl,rfl⟩; clear CA) | (refine (CB.out _).mono ?_; rintro e7 w7 ⟨rfl,rfl⟩)))
            | go_skip
            | fail)
           go_ret
           exact ⟨qA5 (by rw [HC.out,HF.out]; rfl),by rw [HGB.out]; exact HX5.out.bl⟩
         case true=>
          go_wp2_with (first
           | (go_at_call 28; (first | (refine (CA.out _).mono ?_; rintro e6 w6 ⟨rfl,rfl⟩; clear CA) | (refine (CB.out _).mono ?_; rintro e7 w7 ⟨rfl,rfl⟩)))
           | go_skip
           | fail)
          go_ret
          exact ⟨qA5 (by rw [HC.out,HF.out]; rfl),by rw [HGB.out]; exact HX5.out.bl⟩
        case true=>
         cases xbe
         case false=>
          cases xsa
          case false=>
           cases xsc
           case false=>
            cases xgd
            case false=>
             go_wp2_with (first
              | (go_at_call 28; (first | (refine (CA.out _).mono ?_; rintro e6 w6 ⟨rfl,rfl⟩; clear CA) | (refine (CB.out _).mono ?_; rintro e7 w7 ⟨rfl,rfl⟩)))
              | go_skip
              | fail)
             go_ret
             exact ⟨qA5 (by rw [HC.out,HF.out]; rfl),by rw [HGB.out]; exact HX5.out.bl⟩
            case true=>
             go_wp2_with (first
              | (go_at_call 28; (first | (refine (CA.out _).mono ?_; rintro e6 w6 ⟨rfl,rfl⟩; clear CA) | (refine (CB.out _).mono ?_; rintro e7 w7 ⟨rfl,rfl⟩)))
              | go_skip
              | fail)
             go_ret
             exact ⟨qA5 (by rw [HC.out,HF.out]; rfl),by rw [HGB.out]; exact HX5.out.bl⟩
           case true=>
            go_wp2_with (first
             | (go_at_call 28; (first | (refine (CA.out _).mono ?_; rintro e6 w6 ⟨rfl,rfl⟩; clear CA) | (refine (CB.out _).mono ?_; rintro e7 w7 ⟨rfl,rfl⟩)))
             | go_skip
             | fail)
            go_ret
            exact ⟨qA5 (by rw [HC.out,HF.out]; rfl),by rw [HGB.out]; exact HX5.out.bl⟩
          case true=>
           go_wp2_with (first
            | (go_at_call 28; (first | (refine (CA.out _).mono ?_; rintro e6 w6 ⟨rfl,rfl⟩; clear CA) | (refine (CB.out _).mono ?_; rintro e7 w7 ⟨rfl,rfl⟩)))
            | go_skip
            | fail)
           go_ret
           exact ⟨qA5 (by rw [HC.out,HF.out]; rfl),by rw [HGB.out]; exact HX5.out.bl⟩
         case true=>
          go_wp2_with (first
           | (go_at_call 28; (first | (refine (CA.out _).mono ?_; rintro e6 w6 ⟨rfl,rfl⟩; clear CA) | (refine (CB.out _).mono ?_; rintro e7 w7 ⟨rfl,rfl⟩)))
           | go_skip
           | fail)
          go_ret
          exact ⟨qA5 (by rw [HC.out,HF.out]; rfl),by rw [HGB.out]; exact HX5.out.bl⟩
       case true=>
        go_wp2_with (first | go_skip | fail)
        refine (CI.out _).mono ?_;rintro e8 w8 ⟨A8,m8,c8,rfl,ho8,hm8,hb8⟩;have hcv:=qAT ho8 HLE.out;have HX8:=hid (HX5.out.below hb8);have HR8:=hid (HR5.out.below hb8);have CH:=qDJ (stz (encN pad)) A 10 c (digK Z 10) w8 HSE.out HVE.out HR8.out (by omega);rw [HPE.out] at CH;have CH3:=hid CH;clear CH ho8 hm8 hb8 c17 c18;generalize stz (encN pad)=tp at *
        go_wp2_with (first | go_skip | fail)
        refine CH3.out.mono ?_;rintro e9 w9 ⟨rfl,hb9⟩;have HX9:=hid (HX8.out.below hb9);clear hcv CH3 hb9 HX8
        cases xI
        case false=>
         have k0:=HX9.out.bs.c 0;have k1:=HX9.out.bs.c 1;have k2:=HX9.out.bs.c 2;have k3:=HX9.out.bs.c 3;have k4:=HX9.out.bs.c 4;have k8:=HX9.out.bs.c 8
         cases xac
         case false=>
          cases xsa
          case false=>
           cases xsc
           case false=>
            cases xgd
            case false=>
             go_wp2_with (first
              | (go_at_call 28; (first | (refine (CA.out _).mono ?_; rintro e6 w6 ⟨rfl,rfl⟩; clear CA) | (refine (CB.out _).mono ?_; rintro e7 w7 ⟨rfl,rfl⟩)))
              | go_skip
              | fail)
             go_ret
             exact ⟨qA5 (by rw [HC.out,HF.out]; rfl),by rw [HGB.out]; exact HX9.out.bl⟩
            case true=>
             go_wp2_with (first
              | (go_at_call 28; (first | (refine (CA.out _).mono ?_; rintro e6 w6 ⟨rfl,rfl⟩; clear CA) | (refine (CB.out _).mono ?_; rintro e7 w7 ⟨rfl,rfl⟩)))
              | go_skip
              | fail)
             go_ret
             exact ⟨qA5 (by rw [HC.out,HF.out]; rfl),by rw [HGB.out]; exact HX9.out.bl⟩
           case true=>
            go_wp2_with (first
             | (go_at_call 28; (first | (refine (CA.out _).mono ?_; rintro e6 w6 ⟨rfl,rfl⟩; clear CA) | (refine (CB.out _).mono ?_; rintro e7 w7 ⟨rfl,rfl⟩)))
             | go_skip
             | fail)
            go_ret
            exact ⟨qA5 (by rw [HC.out,HF.out]; rfl),by rw [HGB.out]; exact HX9.out.bl⟩
          case true=>
           go_wp2_with (first
            | (go_at_call 28; (first | (refine (CA.out _).mono ?_; rintro e6 w6 ⟨rfl,rfl⟩; clear CA) | (refine (CB.out _).mono ?_; rintro e7 w7 ⟨rfl,rfl⟩)))
            | go_skip
            | fail)
           go_ret
           exact ⟨qA5 (by rw [HC.out,HF.out]; rfl),by rw [HGB.out]; exact HX9.out.bl⟩
         case true=>
          cases xbe
          case false=>
           cases xsa
           case false=>
            cases xsc
            case false=>
             cases xgd
             case false=>
              go_wp2_with (first
               | (go_at_call 28; (first | (refine (CA.out _).mono ?_; rintro e6 w6 ⟨rfl,rfl⟩; clear CA) | (refine (CB.out _).mono ?_; rintro e7 w7 ⟨rfl,rfl⟩)))
               | go_skip
               | fail)
              go_ret
              exact ⟨qA5 (by rw [HC.out,HF.out]; rfl),by rw [HGB.out]; exact HX9.out.bl⟩
             case true=>
              go_wp2_with (first
               | (go_at_call 28; (first | (refine (CA.out _).mono ?_; rintro e6 w6 ⟨rfl,rfl⟩; clear CA) | (refine (CB.out _).mono ?_; rintro e7 w7 ⟨rfl,rfl⟩)))
               | go_skip
               | fail)
              go_ret
              exact ⟨qA5 (by rw [HC.out,HF.out]; rfl),by rw [HGB.out]; exact HX9.out.bl⟩
            case true=>
             go_wp2_with (first
              | (go_at_call 28; (first | (refine (CA.out _).mono ?_; rintro e6 w6 ⟨rfl,rfl⟩; clear CA) | (refine (CB.out _).mono ?_; rintro e7 w7 ⟨rfl,rfl⟩)))
              | go_skip
              | fail)
             go_ret
             exact ⟨qA5 (by rw [HC.out,HF.out]; rfl),by rw [HGB.out]; exact HX9.out.bl⟩
           case true=>
            go_wp2_with (first
             | (go_at_call 28; (first | (refine (CA.out _).mono ?_; rintro e6 w6 ⟨rfl,rfl⟩; clear CA) | (refine (CB.out _).mono ?_; rintro e7 w7 ⟨rfl,rfl⟩)))
             | go_skip
             | fail)
            go_ret
            exact ⟨qA5 (by rw [HC.out,HF.out]; rfl),by rw [HGB.out]; exact HX9.out.bl⟩
          case true=>
           go_wp2_with (first
            | (go_at_call 28; (first | (refine (CA.out _).mono ?_; rintro e6 w6 ⟨rfl,rfl⟩; clear CA) | (refine (CB.out _).mono ?_; rintro e7 w7 ⟨rfl,rfl⟩)))
            | go_skip
            | fail)
           go_ret
           exact ⟨qA5 (by rw [HC.out,HF.out]; rfl),by rw [HGB.out]; exact HX9.out.bl⟩
        case true=>
         go_wp2_with (first
          | (go_at_call 28; (first | (refine (CA.out _).mono ?_; rintro e6 w6 ⟨rfl,rfl⟩; clear CA) | (refine (CB.out _).mono ?_; rintro e7 w7 ⟨rfl,rfl⟩)))
          | go_skip
          | fail)
         go_ret
         exact ⟨qA5 (by rw [HC.out,HF.out]; rfl),by rw [HGB.out]; exact HX9.out.bl⟩
end Go.Proofs.Ytohfadegildnaaa
