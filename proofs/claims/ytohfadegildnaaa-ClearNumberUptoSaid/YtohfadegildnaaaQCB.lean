import Derived.Test.YtohfadegildnaaaQCA
import Derived.Test.YtohfadegildnaaaQSF
import Derived.Test.YtohfadegildnaaaQZM
import Derived.Test.YtohfadegildnaaaQUI
import Derived.Test.YtohfadegildnaaaQYC
set_option linter.all false
set_option maxRecDepth 100000
set_option linter.unusedVariables false
namespace Go.Proofs.Ytohfadegildnaaa
open Go.RowKit
open Lib (hid)
structure PS (w0 W:World) (b:Nat) (PV SV:Array Value):Prop where
 bl:Below b w0 W
 bp:BX W b PV 26
 bs:BX W (b+1) SV 23
section
variable {w0 W W':World} {b:Nat} {PV SV:Array Value}
theorem PS.below (x:PS w0 W b PV SV) (hb:Below W.heap.size W W'):PS w0 W' b PV SV:=⟨x.bl.trans (hb.mono (Nat.le_of_lt x.bp.lt)),x.bp.below hb x.bp.lt,x.bs.below hb x.bs.lt⟩
theorem PS.drew (x:PS w0 W b PV SV):PS w0 W.drew b PV SV:=⟨x.bl.drew,x.bp,x.bs⟩
theorem PS.new (w0:World) (PV SV:Array Value):PS w0 ((w0.alloc (.cells PV 26)).alloc (.cells SV 23)) w0.heap.size PV SV:=
 ⟨((Below.refl _ _).alloc (Nat.le_refl _) _).alloc (by simp) _,(BX.new w0 PV _).alloc _,by have:=BX.new (w0.alloc (.cells PV 26)) SV 23; simpa using this⟩
theorem PS.p (x:PS w0 W b PV SV) (j:Nat) {v:Value} (hv:PV[j]? = some v):W.cell? ⟨b,j,none⟩=some v:=(x.bp.c j).trans hv
theorem PS.keep {i j:Nat} {x y:Value} (h:(W.cell? ⟨b,i,none⟩=some x∧W.cell? ⟨b,j,none⟩=some y)∧Hid (PS w0 W b PV SV)) (hb:Below W.heap.size W W'):(W'.cell? ⟨b,i,none⟩=some x∧W'.cell? ⟨b,j,none⟩=some y)∧Hid (PS w0 W' b PV SV):=
 ⟨⟨(hb.cell (p:=⟨b,i,none⟩) h.2.out.bp.lt).trans h.1.1,(hb.cell (p:=⟨b,j,none⟩) h.2.out.bp.lt).trans h.1.2⟩,hid (h.2.out.below hb)⟩
end
structure Afx (p:Pt):Prop where
 a:p.pre.all mayI=true∧p.pre.length≤41
 b:p.suf.all mayI=true∧p.suf.length≤41
 c:p.npre.all mayI=true∧p.npre.length≤41
 d:p.nsuf.all mayI=true∧p.nsuf.length≤41
theorem GdP.afx {p:Pt} {N:List Nat} (h:GdP p N):Afx p:=by
 have h1:=h.pre.2
 have h2:=h.suf.2
 refine ⟨⟨h.pre.1,by omega⟩,⟨h.suf.1,by omega⟩,⟨h.npre,?_⟩,⟨h.nsuf,?_⟩⟩
 · cases hn:p.neg
   · rw [(h.one hn).1,List.length_cons]; omega
   · have:=(h.two hn).1; omega
 · cases hn:p.neg
   · rw [(h.one hn).2]; omega
   · have:=(h.two hn).2; omega
theorem qDH (z:Int) (d g mi pl pc pm cu e:ByteArray) (A:Option Addr) (n c:Nat) (is:List Itm) (w:World) (h:Its w A n is) (hn:n≤200) (hs:∀ j,j < 5→(tx5 mi pl pc pm cu j).size≤1000) (hm:is.all mayI=true) :
 Calls Try.prog 21 #[.agg #[.int .i32 z,.string d,.string g,.string mi,.string pl,.string pc,.string pm,.string cu,.string e],.slice A n c] w fun e' w'=>e'=.returned (.string (txtI (tx5 mi pl pc pm cu) is))∧Hid (Below w.heap.size w w'):=by
 have:=symText_c z d g mi pl pc pm cu e A n c is w h hn hs
 rwa [hm,if_pos rfl] at this
set_option maxHeartbeats 4000000 in
theorem qF9 (PV:Array Value) (p:Pt) (z:Int) (d g mi pl pc pm cu e:ByteArray) (neg:Bool) (w:World) (h:Ptv w PV p) (ha:Afx p) (hs:∀ j,j < 5→(tx5 mi pl pc pm cu j).size≤1000) :
 Calls Try.prog 9 #[.agg PV,.agg #[.int .i32 z,.string d,.string g,.string mi,.string pl,.string pc,.string pm,.string cu,.string e],.bool neg] w fun e' w'=>e'=.returned (.tuple #[.string (txtI (tx5 mi pl pc pm cu) (if neg then p.npre else p.pre)),.string (txtI (tx5 mi pl pc pm cu) (if neg then p.nsuf else p.suf))])∧Hid (Below w.heap.size w w'):=by
 have hss:(Try.prog.info? 23).map (·.size)=some (#[.int .i32 z,.string d,.string g,.string mi,.string pl,.string pc,.string pm,.string cu,.string e]:Array Value).size:=by kernel_rfl
 have HX:=hid (PS.new w PV #[.int .i32 z,.string d,.string g,.string mi,.string pl,.string pc,.string pm,.string cu,.string e])
 obtain ⟨A0,n0,c0,A1,n1,c1,A3,n3,c3,A4,n4,c4,hpv,h0,h1,h3,h4⟩:=h
 have HV:Hid (PV[0]? = some (.slice A0 n0 c0)∧PV[1]? = some (.slice A1 n1 c1)∧PV[3]? = some (.slice A3 n3 c3)∧PV[4]? = some (.slice A4 n4 c4)):=hid (by rw [hpv]; exact ⟨rfl,rfl,rfl,rfl⟩)
 have C0:=hid (fun W (x:PS w W w.heap.size PV #[.int .i32 z,.string d,.string g,.string mi,.string pl,.string pc,.string pm,.string cu,.string e])=>qDH z d g mi pl pc pm cu e A0 n0 c0 p.pre W (h0.below x.bl) (by have:=ha.a.2; have:=h0.len; omega) hs ha.a.1)
 have C1:=hid (fun W (x:PS w W w.heap.size PV #[.int .i32 z,.string d,.string g,.string mi,.string pl,.string pc,.string pm,.string cu,.string e])=>qDH z d g mi pl pc pm cu e A1 n1 c1 p.suf W (h1.below x.bl) (by have:=ha.b.2; have:=h1.len; omega) hs ha.b.1)
 have C3:=hid (fun W (x:PS w W w.heap.size PV #[.int .i32 z,.string d,.string g,.string mi,.string pl,.string pc,.string pm,.string cu,.string e])=>qDH z d g mi pl pc pm cu e A3 n3 c3 p.npre W (h3.below x.bl) (by have:=ha.c.2; have:=h3.len; omega) hs ha.c.1)
 have C4:=hid (fun W (x:PS w W w.heap.size PV #[.int .i32 z,.string d,.string g,.string mi,.string pl,.string pc,.string pm,.string cu,.string e])=>qDH z d g mi pl pc pm cu e A4 n4 c4 p.nsuf W (h4.below x.bl) (by have:=ha.d.2; have:=h4.len; omega) hs ha.d.1)
 clear hpv h0 h1 h3 h4 ha hs
 cases neg
 case false=>
  show Calls _ _ _ w fun e' w'=>e'=.returned (.tuple #[.string (txtI (tx5 mi pl pc pm cu) p.pre),.string (txtI (tx5 mi pl pc pm cu) p.suf)])∧_
  go_enter Try.func9,Try.ntmps9
  go_upto_region 3 with fail
  generalize (w.alloc (.cells PV 26)).alloc (.cells #[.int .i32 z,.string d,.string g,.string mi,.string pl,.string pc,.string pm,.string cu,.string e] 23)=W at *;generalize hgb:w.heap.size=b at *;have HGB:=hid hgb;clear hgb;refine wp_region_held_drew (S:=(fun W':World=>(W'.cell? ⟨b,0,none⟩=some (.slice A0 n0 c0)∧W'.cell? ⟨b,1,none⟩=some (.slice A1 n1 c1))∧Hid (PS w W' b PV #[.int .i32 z,.string d,.string g,.string mi,.string pl,.string pc,.string pm,.string cu,.string e]))) (by kernel_rfl) (⟨⟨(HX.out.bp.c 0).trans HV.out.1,(HX.out.bp.c 1).trans HV.out.2.1⟩,hid HX.out.drew⟩) (fun hHeld=>?_);refine ql 0 hHeld (fun _ h=>h.2.out.bs) Try.underlying23 hss ?_
  try simp only [pk]
  refine' qt 1 hHeld ?_
  try simp only [pk]
  refine' qt 2 hHeld ?_
  try simp only [pk]
  refine ql 4 hHeld (fun _ h=>h.2.out.bs) Try.underlying23 hss ?_
  try simp only [pk]
  refine' qt 5 hHeld ?_
  try simp only [pk]
  refine' qt 6 hHeld ?_
  try simp only [pk]
  refine qk 3 (C0.out _ hHeld.2.out) (fun W' h=>PS.keep hHeld h.out) fun W9 hHeld _=>?_
  try simp only [pk]
  refine qk 7 (C1.out _ hHeld.2.out) (fun W' h=>PS.keep hHeld h.out) fun W9 hHeld _=>?_
  try simp only [pk]
  refine' qt 8 hHeld ?_
  try simp only [pk]
  refine' qt 9 hHeld ?_
  try simp only [pk]
  refine wpAnyH_done (by kernel_rfl) ?_ _
  go_wp2
  go_ret2
  exact ⟨rfl,hid (by rw [HGB.out]; exact hHeld.2.out.bl)⟩
 case true=>
  show Calls _ _ _ w fun e' w'=>e'=.returned (.tuple #[.string (txtI (tx5 mi pl pc pm cu) p.npre),.string (txtI (tx5 mi pl pc pm cu) p.nsuf)])∧_
  go_enter Try.func9,Try.ntmps9
  go_upto_region 2 with fail
  generalize (w.alloc (.cells PV 26)).alloc (.cells #[.int .i32 z,.string d,.string g,.string mi,.string pl,.string pc,.string pm,.string cu,.string e] 23)=W at *;generalize hgb:w.heap.size=b at *;have HGB:=hid hgb;clear hgb;refine wp_region_held_drew (S:=(fun W':World=>(W'.cell? ⟨b,3,none⟩=some (.slice A3 n3 c3)∧W'.cell? ⟨b,4,none⟩=some (.slice A4 n4 c4))∧Hid (PS w W' b PV #[.int .i32 z,.string d,.string g,.string mi,.string pl,.string pc,.string pm,.string cu,.string e]))) (by kernel_rfl) (⟨⟨(HX.out.bp.c 3).trans HV.out.2.2.1,(HX.out.bp.c 4).trans HV.out.2.2.2⟩,hid HX.out.drew⟩) (fun hHeld=>?_);refine ql 0 hHeld (fun _ h=>h.2.out.bs) Try.underlying23 hss ?_
  try simp only [pk]
  refine' qt 1 hHeld ?_
  try simp only [pk]
  refine' qt 2 hHeld ?_
  try simp only [pk]
  refine ql 4 hHeld (fun _ h=>h.2.out.bs) Try.underlying23 hss ?_
  try simp only [pk]
  refine' qt 5 hHeld ?_
  try simp only [pk]
  refine' qt 6 hHeld ?_
  try simp only [pk]
  refine qk 3 (C3.out _ hHeld.2.out) (fun W' h=>PS.keep hHeld h.out) fun W9 hHeld _=>?_
  try simp only [pk]
  refine qk 7 (C4.out _ hHeld.2.out) (fun W' h=>PS.keep hHeld h.out) fun W9 hHeld _=>?_
  try simp only [pk]
  refine' qt 8 hHeld ?_
  try simp only [pk]
  refine' qt 9 hHeld ?_
  try simp only [pk]
  refine wpAnyH_done (by kernel_rfl) ?_ _
  go_wp2
  go_ret2
  exact ⟨rfl,hid (by rw [HGB.out]; exact hHeld.2.out.bl)⟩
theorem qG0 (PV:Array Value) (a:Int) (w:World) (h:PV[17]? = some (.int .i64 a)):Calls Try.prog 24 #[.agg PV] w fun e w'=>e=.returned (.bool (decide (a≠0)))∧Below w.heap.size w w':=by
 have hb:=qB3 w (.cells PV 26)
 have c17:=((BX.new w PV 26).c 17).trans h
 go_enter Try.func24,Try.ntmps24
 go_upto_region 1 with fail
 generalize w.alloc (.cells PV 26)=W at *
 have HB:=hid hb
 clear hb h
 go_wp2
 go_ret
 refine ⟨qA5 ?_,HB.out⟩
 by_cases h0:a=0
 · subst h0; rfl
 · rw [decide_eq_true h0]; simpa using h0
theorem qH5:∀ args w,(callFunc 42 args).run Try.prog w=.ok (.enter 42 args) w:=enters_of Try.func42 (by kernel_rfl) rfl
theorem qH6:∀ args w,(callFunc 44 args).run Try.prog w=.ok (.enter 44 args) w:=enters_of Try.func44 (by kernel_rfl) rfl
structure PF (Z:Nat) (at_ pad:Int) (PV SV:Array Value):Prop where
 z:SV[0]? = some (.int .i32 (Z:Int))
 a:PV[17]? = some (.int .i64 at_)
 p:PV[18]? = some (.int .i32 pad)
 sz:(Try.prog.info? 26).map (·.size)=some PV.size
 sys:sysZ (Z:Int)=true
structure TK (w:World) (b Z:Nat) (at_ pad:Int) (PV SV:Array Value):Prop where
 bp:BX w b PV 26
 bs:BX w (b+1) SV 23
 f:PF Z at_ pad PV SV
theorem TK.below {w W:World} {b Z:Nat} {at_ pad:Int} {PV SV:Array Value} (x:TK w b Z at_ pad PV SV) {B:Nat} (hb:Below B w W) (hB:b+1 < B):TK W b Z at_ pad PV SV:=
 ⟨x.bp.below hb (by omega),x.bs.below hb hB,x.f⟩
def lbT (b:Nat):Array Value:=#[.pointer (some ⟨b+1,0,none⟩),.pointer (some ⟨b,0,none⟩)]
set_option maxHeartbeats 1000000 in
theorem taken_grows {w:World} {b Z:Nat} {at_ pad:Int} {PV SV:Array Value} (h:TK w b Z at_ pad PV SV):PredGrows Try.prog 42 (lbT b) (ntk Z at_ pad) w:=by
 intro W x hx hb
 have HT:=hid (h.below hb h.bs.lt)
 have C1:=hid (fun W=>qHT Z x W h.f.sys hx)
 have C2:=hid (fun W=>qG0 PV at_ W h.f.a)
 have hsz:=h.f.sz
 have hbx:=HT.out.bp
 have s0:=(HT.out.bs.c 0).trans HT.out.f.z
 have s18:=(HT.out.bp.c 18).trans HT.out.f.p
 clear hb h
 show Calls _ _ #[.int .i32 (x:Int),.pointer (some ⟨b+1,0,none⟩),.pointer (some ⟨b,0,none⟩)] W _
 rcases hI:inS Z x with _ | _
 · rw [hI] at C1
   have HI:=hid hI;clear hI
   by_cases h0:at_=0
   · rw [decide_eq_false (not_not_intro h0)] at C2
     have H0:=hid h0;clear h0
     go_enter Try.func42,Try.ntmps42
     go_wp2_with (first
      | (go_at_call 25; refine (C1.out _).mono ?_; rintro e w1 ⟨rfl,rfl⟩)
      | (go_at_call 24; refine (C2.out _).mono ?_; rintro e w2 ⟨rfl,hb2⟩)
      | (refine qAM 26 (Operand.tmp 2) rfl b rfl 26 PV (0,0) _ hbx Try.underlying26 rfl hsz rfl rfl rfl rfl ?_)
      | go_skip
      | fail)
     go_ret
     exact ⟨qA5 (by rw [ntk,HI.out,decide_eq_false (not_not_intro H0.out)]; rfl),hb2⟩
   · rw [decide_eq_true h0] at C2
     have H0:=hid h0;clear h0
     go_enter Try.func42,Try.ntmps42
     go_wp2_with (first
      | (go_at_call 25; refine (C1.out _).mono ?_; rintro e w1 ⟨rfl,rfl⟩)
      | (go_at_call 24; refine (C2.out _).mono ?_; rintro e w2 ⟨rfl,hb2⟩; have t18:=(hb2.cell (p:=⟨b,18,none⟩) HT.out.bp.lt).trans s18; clear s18)
      | (refine qAM 26 (Operand.tmp 2) rfl b rfl 26 PV (0,0) _ hbx Try.underlying26 rfl hsz rfl rfl rfl rfl ?_)
      | go_skip
      | fail)
     go_ret
     exact ⟨qA5 (by rw [ntk,HI.out,decide_eq_true H0.out]; rfl),hb2⟩
 · rw [hI] at C1
   have HI:=hid hI;clear hI
   go_enter Try.func42,Try.ntmps42
   go_wp2_with (first
    | (go_at_call 25; refine (C1.out _).mono ?_; rintro e w1 ⟨rfl,rfl⟩)
    | go_skip
    | fail)
   go_ret
   exact ⟨qA5 (by rw [ntk,HI.out]; rfl),Below.refl _ _⟩
theorem containsT_c {w:World} {b Z:Nat} {at_ pad:Int} {PV SV:Array Value} (h:TK w b Z at_ pad PV SV) (t:ByteArray) (ht:Vt t):Calls Try.prog 45 #[.string t,.func (.func 42) #[] (lbT b)] w fun e w'=>
 e=.returned (.bool (nfr Z at_ pad t))∧Below w.heap.size w w':=by
 have:=Try.strings_ContainsFunc_grows 42 (lbT b) qH5 (ntk Z at_ pad) t w (taken_grows h)
 rwa [idxF_cps _ ht] at this
theorem free2_c {w:World} {b Z q:Nat} {at_ pad:Int} {PV SV:Array Value} (h:TK w b Z at_ pad PV SV) (hq:w.cell? ⟨q,0,none⟩=some (.func (.func 42) #[] (lbT b))) (t:ByteArray) (ht:Vt t) :
 Calls Try.prog 44 (#[.string t]++#[.pointer (some ⟨q,0,none⟩)]) w fun e w'=>e=.returned (.bool (nfr Z at_ pad t))∧Below w.heap.size w w':=by
 have CC:=hid (containsT_c h t ht)
 show Calls _ _ #[.string t,.pointer (some ⟨q,0,none⟩)] w _
 clear h ht
 go_enter Try.func44,Try.ntmps44
 go_wp2_with (first
  | (go_at_call 45; refine CC.out.mono ?_; rintro e w1 ⟨rfl,hb⟩)
  | fail)
 go_ret
 exact ⟨rfl,hb⟩
set_option maxHeartbeats 2000000 in
theorem sIndex_c (A:Option Addr) (n c:Nat) (ts:List ByteArray) (g:Nat) (lb:Array Value) (p:ByteArray→Bool) (w:World) (h:Tls w A n ts) (hn:n≤1000) (eg:∀ args w,(callFunc g args).run Try.prog w=.ok (.enter g args) w)
 (hp:∀ W x,x ∈ ts→Below w.heap.size w W→Calls Try.prog g (#[.string x]++lb) W fun e w'=>e=.returned (.bool (p x))∧Below W.heap.size W w') :
 Calls Try.prog 53 #[.slice A n c,.func (.func g) #[] lb] w fun e w'=>∃ k:Int,e=.returned (.int .i64 k)∧decide (0≤k)=ts.any p∧Below w.heap.size w w':=by
 have HI:=hid h
 have HL:=hid h.len
 have HP:=hid hp
 clear h hp
 go_enter Try.func53,Try.ntmps53
 go_wp2
 go_loopw [5,8] (fun _ v wr=>∃ k:Nat,k≤n∧v=.int .i64 (k:Int)∧Hid (∀ x ∈ ts.take k,p x=false)∧Hid (Below w.heap.size w wr)) (fun _ v _=>n - (intOf v).toNat)
 case atStart=>exact ⟨0,Nat.zero_le _,rfl,hid (fun x hx=>by cases hx),hid (Below.refl _ _)⟩
 case round=>
  obtain ⟨k,hk,rfl,HN,HB⟩:=hrel
  by_cases hlt:k < n
  · have gi:decide ((k:Int) < (n:Int))=true:=decide_eq_true (by omega)
    have gj:(k:Int) < (n:Int):=by omega
    have hkl:k < ts.length:=by rw [HL.out]; exact hlt
    obtain ⟨ad,rfl,hc⟩:=(HI.out.below HB.out).at_ hlt hkl;have hcall:=HP.out wr ts[k] (List.getElem_mem hkl) HB.out;have HTk:=hid (List.take_succ_eq_append_getElem hkl);have HEx:Hid (ts[k] ∈ ts):=hid (List.getElem_mem hkl);generalize ts[k]=y at *
    rcases hq:p y with _ | _
    · rw [hq] at hcall
      have HQ:=hid hq;clear hq
      go_wp2_with (go_at_fn g; refine hcall.mono ?_; rintro e w' ⟨rfl,hb'⟩)
      go_roundw
      case rel=>exact ⟨k+1,by omega,by go_num,hid (fun x hx=>by rw [HTk.out] at hx; rcases List.mem_append.1 hx with h1 | h1; exact HN.out x h1; rw [List.mem_singleton] at h1; rw [h1]; exact HQ.out),hid (HB.out.trans (hb'.mono HB.out.size))⟩
      case measure=>simp [intOf]; omega
    · rw [hq] at hcall
      have HQ:=hid hq;clear hq
      go_wp2_with (go_at_fn g; refine hcall.mono ?_; rintro e w' ⟨rfl,hb'⟩)
      go_ret
      exact ⟨_,rfl,by rw [List.any_eq_true.2 ⟨y,HEx.out,HQ.out⟩]; exact decide_eq_true (by omega),HB.out.trans (hb'.mono HB.out.size)⟩
  · have gi:decide ((k:Int) < (n:Int))=false:=decide_eq_false (by omega)
    have gj:¬ (k:Int) < (n:Int):=by omega
    go_wp2
    go_ret
    refine ⟨_,rfl,?_,HB.out⟩;rw [List.any_eq_false.2 fun x hx=>by rw [HN.out x (by rw [List.take_of_length_le (by rw [HL.out]; omega)]; exact hx)]; decide];rfl
theorem sContains_c (A:Option Addr) (n c:Nat) (ts:List ByteArray) (g:Nat) (lb:Array Value) (p:ByteArray→Bool) (w:World) (h:Tls w A n ts) (hn:n≤1000) (eg:∀ args w,(callFunc g args).run Try.prog w=.ok (.enter g args) w)
 (hp:∀ W x,x ∈ ts→Below w.heap.size w W→Calls Try.prog g (#[.string x]++lb) W fun e w'=>e=.returned (.bool (p x))∧Below W.heap.size W w') :
 Calls Try.prog 43 #[.slice A n c,.func (.func g) #[] lb] w fun e w'=>e=.returned (.bool (ts.any p))∧Below w.heap.size w w':=by
 have CI:=hid (sIndex_c A n c ts g lb p w h hn eg hp)
 clear h hp eg
 go_enter Try.func43,Try.ntmps43
 go_wp2_with (first
  | (go_at_call 53; refine CI.out.mono ?_; rintro e w1 ⟨k,rfl,hk,hb⟩; have HK:=hid hk; clear hk)
  | fail)
 go_ret
 exact ⟨qA5 HK.out,hb⟩
theorem store_fn (W:World) (t:TypeId) (F:FuncId) (lb:Array Value):(store ⟨W.heap.size,0,none⟩ (.func (.func F) #[] lb)).run Try.prog (W.alloc (.cells #[.nilFunc] t))=.ok () ((W.alloc (.cells #[.nilFunc] t)).setCell ⟨W.heap.size,0,none⟩ (.func (.func F) #[] lb)):=by
 have h:=BX.new W #[.nilFunc] t
 rw [run_store _ _ _ _ _ rfl,show (W.alloc (.cells #[.nilFunc] t)).cell? ⟨W.heap.size,0,none⟩=some .nilFunc from h.c 0,h.fr 0]
 rfl
theorem fn_new (W:World) (t:TypeId) (v:Value):BX (W.alloc (.cells #[v] t)) W.heap.size #[v] t∧Below W.heap.size W (W.alloc (.cells #[v] t)):=⟨BX.new W #[v] t,(Below.refl _ _).alloc (Nat.le_refl _) _⟩
set_option maxHeartbeats 2000000 in
theorem free_c {Z:Nat} {at_ pad:Int} {PV:Array Value} (d g mi pl pc pm cu e:ByteArray) (f:PF Z at_ pad PV #[.int .i32 (Z:Int),.string d,.string g,.string mi,.string pl,.string pc,.string pm,.string cu,.string e]) (A:Option Addr) (n c:Nat) (ts:List ByteArray) (w:World) (h:Tls w A n ts) (hn:n≤1000) (hv:∀ t ∈ ts,Vt t) :
 Calls Try.prog 23 #[.agg PV,.agg #[.int .i32 (Z:Int),.string d,.string g,.string mi,.string pl,.string pc,.string pm,.string cu,.string e],.slice A n c] w fun e' w'=>e'=.returned (.bool (!(ts.any (nfr Z at_ pad))))∧Below w.heap.size w w':=by
 have HX:=hid (PS.new w PV #[.int .i32 (Z:Int),.string d,.string g,.string mi,.string pl,.string pc,.string pm,.string cu,.string e])
 have HI:=hid h
 have HF:=hid f
 have HV:=hid hv
 clear h f hv
 go_enter Try.func23,Try.ntmps23
 go_upto_region 1 with fail
 generalize (w.alloc (.cells PV 26)).alloc (.cells #[.int .i32 (Z:Int),.string d,.string g,.string mi,.string pl,.string pc,.string pm,.string cu,.string e] 23)=W at *
 have HI2:=hid (HI.out.below HX.out.bl)
 generalize hgb:w.heap.size=b at *
 have HGB:=hid hgb
 clear hgb HI
 have hst:=store_fn W 51 42 #[.pointer (some ⟨b+1,0,none⟩),.pointer (some ⟨b,0,none⟩)]
 go_upto_region 2 with fail
 obtain ⟨hq,hbq⟩:=fn_new W 51 (.func (.func 42) #[] #[.pointer (some ⟨b+1,0,none⟩),.pointer (some ⟨b,0,none⟩)])
 clear hst
 generalize W.alloc (.cells #[.func (.func 42) #[] #[.pointer (some ⟨b+1,0,none⟩),.pointer (some ⟨b,0,none⟩)]] 51)=W2 at *
 have HT:Hid (TK W2 b Z at_ pad PV #[.int .i32 (Z:Int),.string d,.string g,.string mi,.string pl,.string pc,.string pm,.string cu,.string e]):=hid ⟨HX.out.bp.below hbq HX.out.bp.lt,HX.out.bs.below hbq HX.out.bs.lt,HF.out⟩
 have HI3:=hid (HI2.out.below hbq)
 have HB2:=hid (HX.out.bl.trans (hbq.mono (Nat.le_of_lt HX.out.bp.lt)))
 have HGW:=hid (Nat.le_of_lt HT.out.bp.lt)
 have HQ:=hid hq
 clear hbq hq HX HI2
 generalize W.heap.size=q at *
 have CS:=hid (sContains_c A n c ts 44 #[.pointer (some ⟨q,0,none⟩)] (nfr Z at_ pad) W2 HI3.out hn qH6 (fun W' x hx hb=>free2_c (HT.out.below hb HT.out.bs.lt) ((hb.cell (p:=⟨q,0,none⟩) HQ.out.lt).trans (HQ.out.c 0)) x (HV.out x hx)))
 go_wp2_with fail
 refine CS.out.mono ?_
 rintro e3 w3 ⟨rfl,hb3⟩
 go_wp2
 go_ret
 exact ⟨rfl,by rw [HGB.out]; exact HB2.out.trans (hb3.mono HGW.out)⟩
theorem tls_lit9 (W:World) (ta tb tc te d g mi pl e:ByteArray):Tls (W.alloc (.cells #[.string ta,.string tb,.string tc,.string te,.string d,.string g,.string mi,.string pl,.string e] 9)) (some ⟨W.heap.size,0,none⟩) 9 [ta,tb,tc,te,d,g,mi,pl,e]:=
 Tls.of_own (base:=W.heap.size) (c:=9) (World.ownsRow_lit (size:=1) W #[.string ta,.string tb,.string tc,.string te,.string d,.string g,.string mi,.string pl,.string e] 9 (Nat.le_refl _) (by unfold maxLen; omega) rfl) (by simp)
set_option maxHeartbeats 8000000 in
theorem clear_c (PV:Array Value) (p:Pt) (Z pad:Nat) (d g mi pl pc pm cu e:ByteArray) (w:World) (h:Ptv w PV p) (ha:Afx p) (hg:qD1 (Z:Int) (tx8 d g mi pl pc pm cu e)=true) (hat:0≤p.at_) (hpad:p.pad=(pad:Int)) (hp2:isC pad=true) (hsz:(Try.prog.info? 26).map (·.size)=some PV.size) :
 Calls Try.prog 11 #[.agg PV,.agg #[.int .i32 (Z:Int),.string d,.string g,.string mi,.string pl,.string pc,.string pm,.string cu,.string e]] w fun e' w'=>e'=.returned (.bool (clr Z p.at_ p.pad (txtI (tx5 mi pl pc pm cu) p.pre) (txtI (tx5 mi pl pc pm cu) p.suf) (txtI (tx5 mi pl pc pm cu) p.npre) (txtI (tx5 mi pl pc pm cu) p.nsuf) d g mi pl e))∧Below w.heap.size w w':=by
 have hss:(Try.prog.info? 23).map (·.size)=some (#[.int .i32 (Z:Int),.string d,.string g,.string mi,.string pl,.string pc,.string pm,.string cu,.string e]:Array Value).size:=by kernel_rfl
 have hs:=qBI hg
 obtain ⟨v5,vd,vg,vm,vp,ve⟩:=good_vt hg
 have hsys:=(qAA.1 hg).2
 obtain ⟨va,na⟩:=qBL v5 hs ha.a.1
 obtain ⟨vb,nb⟩:=qBL v5 hs ha.b.1
 obtain ⟨vc,nc⟩:=qBL v5 hs ha.c.1
 obtain ⟨ve',ne⟩:=qBL v5 hs ha.d.1
 have ra:=ha.a.2
 have rb:=ha.b.2
 have rc:=ha.c.2
 have rd:=ha.d.2
 have f17:PV[17]? = some (.int .i64 p.at_)∧PV[18]? = some (.int .i32 p.pad):=by obtain ⟨A0,n0,c0,A1,n1,c1,A3,n3,c3,A4,n4,c4,hpv,h0,h1,h3,h4⟩:=h; rw [hpv]; exact ⟨rfl,rfl⟩
 have CPf:Hid (∀ W',PS w W' w.heap.size PV #[.int .i32 (Z:Int),.string d,.string g,.string mi,.string pl,.string pc,.string pm,.string cu,.string e]→Calls Try.prog 9 #[.agg PV,.agg #[.int .i32 (Z:Int),.string d,.string g,.string mi,.string pl,.string pc,.string pm,.string cu,.string e],.bool false] W' fun e' w'=>e'=.returned (.tuple #[.string (txtI (tx5 mi pl pc pm cu) p.pre),.string (txtI (tx5 mi pl pc pm cu) p.suf)])∧Hid (Below W'.heap.size W' w')):=hid fun W' x=>qF9 PV p Z d g mi pl pc pm cu e false W' (h.below x.bl) ha hs
 have CPt:Hid (∀ W',PS w W' w.heap.size PV #[.int .i32 (Z:Int),.string d,.string g,.string mi,.string pl,.string pc,.string pm,.string cu,.string e]→Calls Try.prog 9 #[.agg PV,.agg #[.int .i32 (Z:Int),.string d,.string g,.string mi,.string pl,.string pc,.string pm,.string cu,.string e],.bool true] W' fun e' w'=>e'=.returned (.tuple #[.string (txtI (tx5 mi pl pc pm cu) p.npre),.string (txtI (tx5 mi pl pc pm cu) p.nsuf)])∧Hid (Below W'.heap.size W' w')):=hid fun W' x=>qF9 PV p Z d g mi pl pc pm cu e true W' (h.below x.bl) ha hs
 have hta:(txtI (tx5 mi pl pc pm cu) p.pre).size≤41000:=by omega
 have htc:(txtI (tx5 mi pl pc pm cu) p.npre).size≤41000:=by omega
 have htb:(txtI (tx5 mi pl pc pm cu) p.suf).size≤41000:=by omega
 have hte:(txtI (tx5 mi pl pc pm cu) p.nsuf).size≤41000:=by omega
 have hd16:d.size≤16:=(qAG.1 ((qAA.1 hg).1 0 (by omega))).2.1
 have HS9:Hid (∀ x ∈ [txtI (tx5 mi pl pc pm cu) p.pre,txtI (tx5 mi pl pc pm cu) p.suf,txtI (tx5 mi pl pc pm cu) p.npre,txtI (tx5 mi pl pc pm cu) p.nsuf,d,g,mi,pl,e],x.size≤41000):=hid (by
  have h1:=(qAG.1 ((qAA.1 hg).1 1 (by omega))).2.1;have h2:=(qAG.1 ((qAA.1 hg).1 2 (by omega))).2.1;have h3:=(qAG.1 ((qAA.1 hg).1 3 (by omega))).2.1;have h7:=(qAG.1 ((qAA.1 hg).1 7 (by omega))).2.1
  change g.size≤16 at h1; change mi.size≤16 at h2; change pl.size≤16 at h3; change e.size≤16 at h7
  intro x hx;simp only [List.mem_cons,List.not_mem_nil,or_false] at hx
  rcases hx with rfl | rfl | rfl | rfl | rfl | rfl | rfl | rfl | rfl <;> omega)
 clear na nb nc ne ra rb rc rd v5 ha h
 rw [hpad] at f17 ⊢
 generalize txtI (tx5 mi pl pc pm cu) p.pre=ta at *
 generalize txtI (tx5 mi pl pc pm cu) p.suf=tb at *
 generalize txtI (tx5 mi pl pc pm cu) p.npre=tc at *
 generalize txtI (tx5 mi pl pc pm cu) p.nsuf=te at *
 generalize p.at_=at_ at *
 have HVT:Hid (∀ t ∈ [ta,tb,tc,te,d,g,mi,pl,e],Vt t):=hid (by
  intro x hx;simp only [List.mem_cons,List.not_mem_nil,or_false] at hx
  rcases hx with rfl | rfl | rfl | rfl | rfl | rfl | rfl | rfl | rfl <;> assumption)
 have HPF:Hid (PF Z at_ pad PV #[.int .i32 (Z:Int),.string d,.string g,.string mi,.string pl,.string pc,.string pm,.string cu,.string e]):=hid ⟨rfl,f17.1,f17.2,hsz,hsys⟩
 have CF:=hid (fun W'=>free_c d g mi pl pc pm cu e HPF.out _ 9 9 [ta,tb,tc,te,d,g,mi,pl,e] (W'.alloc (.cells #[.string ta,.string tb,.string tc,.string te,.string d,.string g,.string mi,.string pl,.string e] 9)) (tls_lit9 W' ta tb tc te d g mi pl e) (by omega) HVT.out)
 have CQ:=hid (fun W'=>qG0 PV at_ W' f17.1)
 have CI:=hid (fun W'=>qHT Z pad W' hsys (qD3 hp2))
 have CA:=hid (fun W'=>Try.strings_HasSuffix ta d W' (by omega))
 have CB:=hid (fun W'=>Try.strings_HasSuffix tc d W' (by omega))
 rw [show Lib.hasSuffix ta.data.toList d.data.toList=sfx ta d from rfl] at CA
 rw [show Lib.hasSuffix tc.data.toList d.data.toList=sfx tc d from rfl] at CB
 have f18:=f17.2
 have HC:Hid (clr Z at_ (pad:Int) ta tb tc te d g mi pl e=(!([ta,tb,tc,te,d,g,mi,pl,e].any (nfr Z at_ (pad:Int))) && (!(decide (at_≠0) && inS Z pad) && ((!decide (bts ta=bts tc) || !decide (bts tb=bts te)) && (!sfx ta d && (!sfx tc d && (!decide (bts g=bts d) && !decide (bts pl=bts mi)))))))):=hid rfl
 have exac:(ta.toList == tc.toList)=decide (bts ta=bts tc):=qAD ta tc
 have exbe:(tb.toList == te.toList)=decide (bts tb=bts te):=qAD tb te
 have exgd:(g.toList == d.toList)=decide (bts g=bts d):=qAD g d
 have expm:(pl.toList == mi.toList)=decide (bts pl=bts mi):=qAD pl mi
 generalize [ta,tb,tc,te,d,g,mi,pl,e].any (nfr Z at_ (pad:Int))=F at *
 generalize decide (at_≠0)=xQ at *
 generalize inS Z pad=xI at *
 generalize decide (bts ta=bts tc)=xac at *
 generalize decide (bts tb=bts te)=xbe at *
 generalize sfx ta d=xsa at *
 generalize sfx tc d=xsc at *
 generalize decide (bts g=bts d)=xgd at *
 generalize decide (bts pl=bts mi)=xpm at *
 have nxac:(ta.toList != tc.toList) = !xac:=by rw [bne,exac]
 have nxbe:(tb.toList != te.toList) = !xbe:=by rw [bne,exbe]
 have nxgd:(g.toList != d.toList) = !xgd:=by rw [bne,exgd]
 have nxpm:(pl.toList != mi.toList) = !xpm:=by rw [bne,expm]
 clear hg hat hpad hp2 hsys vd vg vm vp ve va vb vc ve' HVT HPF hs HS9 hta htb htc hte hd16
 have HX:=hid (PS.new w PV #[.int .i32 (Z:Int),.string d,.string g,.string mi,.string pl,.string pc,.string pm,.string cu,.string e])
 go_enter Try.func11,Try.ntmps11
 go_upto_region 1 with fail
 generalize (w.alloc (.cells PV 26)).alloc (.cells #[.int .i32 (Z:Int),.string d,.string g,.string mi,.string pl,.string pc,.string pm,.string cu,.string e] 23)=W at *
 generalize hgb:w.heap.size=b at *
 have HGB:=hid hgb
 clear hgb
 go_wp2_with (first
  | (refine wpList_load_row rfl 26 _ rfl b rfl 26 PV (0,0) _ (by first | exact HX2.out.bp | exact HX1.out.bp | exact HX.out.bp) Try.underlying26 rfl hsz ?_)
  | (refine wpList_load_row rfl 23 _ rfl (b+1) rfl 23 #[.int .i32 (Z:Int),.string d,.string g,.string mi,.string pl,.string pc,.string pm,.string cu,.string e] (0,0) _ (by first | exact HX2.out.bs | exact HX1.out.bs | exact HX.out.bs) Try.underlying23 rfl hss ?_)
  | fail)
 refine (CPf.out _ HX.out).mono ?_
 rintro e1 w1 ⟨rfl,hb1⟩
 have HX1:=hid (HX.out.below hb1.out)
 clear hb1 CPf HX
 go_wp2_with (first
  | (refine wpList_load_row rfl 26 _ rfl b rfl 26 PV (0,0) _ (by first | exact HX2.out.bp | exact HX1.out.bp | exact HX.out.bp) Try.underlying26 rfl hsz ?_)
  | (refine wpList_load_row rfl 23 _ rfl (b+1) rfl 23 #[.int .i32 (Z:Int),.string d,.string g,.string mi,.string pl,.string pc,.string pm,.string cu,.string e] (0,0) _ (by first | exact HX2.out.bs | exact HX1.out.bs | exact HX.out.bs) Try.underlying23 rfl hss ?_)
  | fail)
 refine (CPt.out _ HX1.out).mono ?_
 rintro e2 w2 ⟨rfl,hb2⟩
 have HX2:=hid (HX1.out.below hb2.out)
 clear hb2 CPt HX1
 have k0:=HX2.out.bs.c 0
 have k1:=HX2.out.bs.c 1
 have k2:=HX2.out.bs.c 2
 have k3:=HX2.out.bs.c 3
 have k4:=HX2.out.bs.c 4
 have k8:=HX2.out.bs.c 8
 go_upto_region 3 with fail
 go_step
 simp only [List.append]
 go_wp2_with (first
  | (refine wpList_load_row rfl 26 _ rfl b rfl 26 PV (0,0) _ (by first | exact HX2.out.bp | exact HX1.out.bp | exact HX.out.bp) Try.underlying26 rfl hsz ?_)
  | (refine wpList_load_row rfl 23 _ rfl (b+1) rfl 23 #[.int .i32 (Z:Int),.string d,.string g,.string mi,.string pl,.string pc,.string pm,.string cu,.string e] (0,0) _ (by first | exact HX2.out.bs | exact HX1.out.bs | exact HX.out.bs) Try.underlying23 rfl hss ?_)
  | fail)
 refine (CF.out _).mono ?_
 rintro e3 w3 ⟨rfl,hb3⟩
 have HX3:=hid ((HX2.out.below ((Below.refl _ _).alloc (Nat.le_refl _) _)).below hb3)
 clear k0 k1 k2 k3 k4 k8
 clear hb3 CF HX2
 have k0:=HX3.out.bs.c 0
 have k1:=HX3.out.bs.c 1
 have k2:=HX3.out.bs.c 2
 have k3:=HX3.out.bs.c 3
 have k4:=HX3.out.bs.c 4
 have k8:=HX3.out.bs.c 8
 have k18:=(HX3.out.bp.c 18).trans f18
 cases F
 case true=>
  go_wp2_with (first
   | go_skip
   | fail)
  go_ret
  exact ⟨qA5 (by rw [HC.out]; rfl),by rw [HGB.out]; exact HX3.out.bl⟩
 case false=>
  have hbx:=HX3.out.bp
  go_wp2_with (first
   | (refine qAM 26 (Operand.tmp 2) rfl b rfl 26 PV (0,0) _ hbx Try.underlying26 rfl hsz rfl rfl rfl rfl ?_)
   | fail)
  refine (CQ.out _).mono ?_;rintro e4 w4 ⟨rfl,hb4⟩;have HX4:=hid (HX3.out.below hb4);clear k0 k1 k2 k3 k4 k8 k18 hbx;clear hb4 HX3 CQ;have k0:=HX4.out.bs.c 0;have k1:=HX4.out.bs.c 1;have k2:=HX4.out.bs.c 2;have k3:=HX4.out.bs.c 3;have k4:=HX4.out.bs.c 4;have k8:=HX4.out.bs.c 8;have k18:=(HX4.out.bp.c 18).trans f18;clear f18 f17
  cases xQ
  case false=>
   cases xac
   case false=>
    cases xsa
    case false=>
     cases xsc
     case false=>
      cases xgd
      case false=>
       go_wp2_with (first
        | (go_at_call 25; refine (CI.out _).mono ?_; rintro e5 w5 ⟨rfl,rfl⟩)
        | (go_at_call 26; (first | (refine (CA.out _).mono ?_; rintro e6 w6 ⟨rfl,rfl⟩; clear CA) | (refine (CB.out _).mono ?_; rintro e7 w7 ⟨rfl,rfl⟩)))
        | go_skip
        | fail)
       go_ret
       exact ⟨qA5 (by rw [HC.out]; rfl),by rw [HGB.out]; exact HX4.out.bl⟩
      case true=>
       go_wp2_with (first
        | (go_at_call 25; refine (CI.out _).mono ?_; rintro e5 w5 ⟨rfl,rfl⟩)
        | (go_at_call 26; (first | (refine (CA.out _).mono ?_; rintro e6 w6 ⟨rfl,rfl⟩; clear CA) | (refine (CB.out _).mono ?_; rintro e7 w7 ⟨rfl,rfl⟩)))
        | go_skip
        | fail)
       go_ret
       exact ⟨qA5 (by rw [HC.out]; rfl),by rw [HGB.out]; exact HX4.out.bl⟩
     case true=>
      go_wp2_with (first
       | (go_at_call 25; refine (CI.out _).mono ?_; rintro e5 w5 ⟨rfl,rfl⟩)
       | (go_at_call 26; (first | (refine (CA.out _).mono ?_; rintro e6 w6 ⟨rfl,rfl⟩; clear CA) | (refine (CB.out _).mono ?_; rintro e7 w7 ⟨rfl,rfl⟩)))
       | go_skip
       | fail)
      go_ret
      exact ⟨qA5 (by rw [HC.out]; rfl),by rw [HGB.out]; exact HX4.out.bl⟩
    case true=>
     go_wp2_with (first
      | (go_at_call 25; refine (CI.out _).mono ?_; rintro e5 w5 ⟨rfl,rfl⟩)
      | (go_at_call 26; (first | (refine (CA.out _).mono ?_; rintro e6 w6 ⟨rfl,rfl⟩; clear CA) | (refine (CB.out _).mono ?_; rintro e7 w7 ⟨rfl,rfl⟩)))
      | go_skip
      | fail)
     go_ret
     exact ⟨qA5 (by rw [HC.out]; rfl),by rw [HGB.out]; exact HX4.out.bl⟩
   case true=>
    cases xbe
    case false=>
     cases xsa
     case false=>
      cases xsc
      case false=>
       cases xgd
       case false=>
        go_wp2_with (first
         | (go_at_call 25; refine (CI.out _).mono ?_; rintro e5 w5 ⟨rfl,rfl⟩)
         | (go_at_call 26; (first | (refine (CA.out _).mono ?_; rintro e6 w6 ⟨rfl,rfl⟩; clear CA) | (refine (CB.out _).mono ?_; rintro e7 w7 ⟨rfl,rfl⟩)))
         | go_skip
         | fail)
        go_ret
        exact ⟨qA5 (by rw [HC.out]; rfl),by rw [HGB.out]; exact HX4.out.bl⟩
       case true=>
        go_wp2_with (first
         | (go_at_call 25; refine (CI.out _).mono ?_; rintro e5 w5 ⟨rfl,rfl⟩)
         | (go_at_call 26; (first | (refine (CA.out _).mono ?_; rintro e6 w6 ⟨rfl,rfl⟩; clear CA) | (refine (CB.out _).mono ?_; rintro e7 w7 ⟨rfl,rfl⟩)))
         | go_skip
         | fail)
        go_ret
        exact ⟨qA5 (by rw [HC.out]; rfl),by rw [HGB.out]; exact HX4.out.bl⟩
      case true=>
       go_wp2_with (first
        | (go_at_call 25; refine (CI.out _).mono ?_; rintro e5 w5 ⟨rfl,rfl⟩)
        | (go_at_call 26; (first | (refine (CA.out _).mono ?_; rintro e6 w6 ⟨rfl,rfl⟩; clear CA) | (refine (CB.out _).mono ?_; rintro e7 w7 ⟨rfl,rfl⟩)))
        | go_skip
        | fail)
       go_ret
       exact ⟨qA5 (by rw [HC.out]; rfl),by rw [HGB.out]; exact HX4.out.bl⟩
     case true=>
      go_wp2_with (first
       | (go_at_call 25; refine (CI.out _).mono ?_; rintro e5 w5 ⟨rfl,rfl⟩)
       | (go_at_call 26; (first | (refine (CA.out _).mono ?_; rintro e6 w6 ⟨rfl,rfl⟩; clear CA) | (refine (CB.out _).mono ?_; rintro e7 w7 ⟨rfl,rfl⟩)))
       | go_skip
       | fail)
      go_ret
      exact ⟨qA5 (by rw [HC.out]; rfl),by rw [HGB.out]; exact HX4.out.bl⟩
    case true=>
     go_wp2_with (first
      | (go_at_call 25; refine (CI.out _).mono ?_; rintro e5 w5 ⟨rfl,rfl⟩)
      | (go_at_call 26; (first | (refine (CA.out _).mono ?_; rintro e6 w6 ⟨rfl,rfl⟩; clear CA) | (refine (CB.out _).mono ?_; rintro e7 w7 ⟨rfl,rfl⟩)))
      | go_skip
      | fail)
     go_ret
     exact ⟨qA5 (by rw [HC.out]; rfl),by rw [HGB.out]; exact HX4.out.bl⟩
  case true=>
   cases xI
   case false=>
    cases xac
    case false=>
     cases xsa
     case false=>
      cases xsc
      case false=>
       cases xgd
       case false=>
        go_wp2_with (first
         | (go_at_call 25; refine (CI.out _).mono ?_; rintro e5 w5 ⟨rfl,rfl⟩)
         | (go_at_call 26; (first | (refine (CA.out _).mono ?_; rintro e6 w6 ⟨rfl,rfl⟩; clear CA) | (refine (CB.out _).mono ?_; rintro e7 w7 ⟨rfl,rfl⟩)))
         | go_skip
         | fail)
        go_ret
        exact ⟨qA5 (by rw [HC.out]; rfl),by rw [HGB.out]; exact HX4.out.bl⟩
       case true=>
        go_wp2_with (first
         | (go_at_call 25; refine (CI.out _).mono ?_; rintro e5 w5 ⟨rfl,rfl⟩)
         | (go_at_call 26; (first | (refine (CA.out _).mono ?_; rintro e6 w6 ⟨rfl,rfl⟩; clear CA) | (refine (CB.out _).mono ?_; rintro e7 w7 ⟨rfl,rfl⟩)))
         | go_skip
         | fail)
        go_ret
        exact ⟨qA5 (by rw [HC.out]; rfl),by rw [HGB.out]; exact HX4.out.bl⟩
      case true=>
       go_wp2_with (first
        | (go_at_call 25; refine (CI.out _).mono ?_; rintro e5 w5 ⟨rfl,rfl⟩)
        | (go_at_call 26; (first | (refine (CA.out _).mono ?_; rintro e6 w6 ⟨rfl,rfl⟩; clear CA) | (refine (CB.out _).mono ?_; rintro e7 w7 ⟨rfl,rfl⟩)))
        | go_skip
        | fail)
       go_ret
       exact ⟨qA5 (by rw [HC.out]; rfl),by rw [HGB.out]; exact HX4.out.bl⟩
     case true=>
      go_wp2_with (first
       | (go_at_call 25; refine (CI.out _).mono ?_; rintro e5 w5 ⟨rfl,rfl⟩)
       | (go_at_call 26; (first | (refine (CA.out _).mono ?_; rintro e6 w6 ⟨rfl,rfl⟩; clear CA) | (refine (CB.out _).mono ?_; rintro e7 w7 ⟨rfl,rfl⟩)))
       | go_skip
       | fail)
      go_ret
      exact ⟨qA5 (by rw [HC.out]; rfl),by rw [HGB.out]; exact HX4.out.bl⟩
    case true=>
     cases xbe
     case false=>
      cases xsa
      case false=>
       cases xsc
       case false=>
        cases xgd
        case false=>
         go_wp2_with (first
          | (go_at_call 25; refine (CI.out _).mono ?_; rintro e5 w5 ⟨rfl,rfl⟩)
          | (go_at_call 26; (first | (refine (CA.out _).mono ?_; rintro e6 w6 ⟨rfl,rfl⟩; clear CA) | (refine (CB.out _).mono ?_; rintro e7 w7 ⟨rfl,rfl⟩)))
          | go_skip
          | fail)
         go_ret
         exact ⟨qA5 (by rw [HC.out]; rfl),by rw [HGB.out]; exact HX4.out.bl⟩
        case true=>
         go_wp2_with (first
          | (go_at_call 25; refine (CI.out _).mono ?_; rintro e5 w5 ⟨rfl,rfl⟩)
          | (go_at_call 26; (first | (refine (CA.out _).mono ?_; rintro e6 w6 ⟨rfl,rfl⟩; clear CA) | (refine (CB.out _).mono ?_; rintro e7 w7 ⟨rfl,rfl⟩)))
          | go_skip
          | fail)
         go_ret
         exact ⟨qA5 (by rw [HC.out]; rfl),by rw [HGB.out]; exact HX4.out.bl⟩
       case true=>
        go_wp2_with (first
         | (go_at_call 25; refine (CI.out _).mono ?_; rintro e5 w5 ⟨rfl,rfl⟩)
         | (go_at_call 26; (first | (refine (CA.out _).mono ?_; rintro e6 w6 ⟨rfl,rfl⟩; clear CA) | (refine (CB.out _).mono ?_; rintro e7 w7 ⟨rfl,rfl⟩)))
         | go_skip
         | fail)
        go_ret
        exact ⟨qA5 (by rw [HC.out]; rfl),by rw [HGB.out]; exact HX4.out.bl⟩
      case true=>
       go_wp2_with (first
        | (go_at_call 25; refine (CI.out _).mono ?_; rintro e5 w5 ⟨rfl,rfl⟩)
        | (go_at_call 26; (first | (refine (CA.out _).mono ?_; rintro e6 w6 ⟨rfl,rfl⟩; clear CA) | (refine (CB.out _).mono ?_; rintro e7 w7 ⟨rfl,rfl⟩)))
        | go_skip
        | fail)
       go_ret
       exact ⟨qA5 (by rw [HC.out]; rfl),by rw [HGB.out]; exact HX4.out.bl⟩
     case true=>
      go_wp2_with (first
       | (go_at_call 25; refine (CI.out _).mono ?_; rintro e5 w5 ⟨rfl,rfl⟩)
       | (go_at_call 26; (first | (refine (CA.out _).mono ?_; rintro e6 w6 ⟨rfl,rfl⟩; clear CA) | (refine (CB.out _).mono ?_; rintro e7 w7 ⟨rfl,rfl⟩)))
       | go_skip
       | fail)
      go_ret
      exact ⟨qA5 (by rw [HC.out]; rfl),by rw [HGB.out]; exact HX4.out.bl⟩
   case true=>
    go_wp2_with (first
     | (go_at_call 25; refine (CI.out _).mono ?_; rintro e5 w5 ⟨rfl,rfl⟩)
     | (go_at_call 26; (first | (refine (CA.out _).mono ?_; rintro e6 w6 ⟨rfl,rfl⟩; clear CA) | (refine (CB.out _).mono ?_; rintro e7 w7 ⟨rfl,rfl⟩)))
     | go_skip
     | fail)
    go_ret
    exact ⟨qA5 (by rw [HC.out]; rfl),by rw [HGB.out]; exact HX4.out.bl⟩
end Go.Proofs.Ytohfadegildnaaa
