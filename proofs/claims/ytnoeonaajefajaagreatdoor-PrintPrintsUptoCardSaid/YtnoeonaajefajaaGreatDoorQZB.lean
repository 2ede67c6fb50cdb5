import Derived.Deep.DeepCutAuto
import Derived.ChangeKeysEq
import Derived.Test.YtnoeonaajefajaaGreatDoorQZM
set_option linter.all false
set_option maxRecDepth 100000
set_option linter.unusedVariables false
namespace Go.Proofs.YtnoeonaajefajaaGreatDoor
open Go.RowKit
open Lib (hid)
theorem qME (W:World) (r:Int) (q:Bool) (r':Int) (q':Bool) (hr : -2147483648≤r∧r≤2147483647) (hr' : -2147483648≤r'∧r'≤2147483647) :
 Tks (W.alloc (.cells #[.int .i32 r,.bool q,.int .i64 0,.int .i32 r',.bool q',.int .i64 0] 58)) (some ⟨W.heap.size,0,none⟩) 2 [(r,q,0),(r',q',0)]:=
 (show OwnT _ W.heap.size _ 2 2 _ from ⟨World.ownsRow_lit (size:=3) W #[.int .i32 r,.bool q,.int .i64 0,.int .i32 r',.bool q',.int .i64 0] 2 (Nat.le_refl _) (by unfold maxLen; omega) rfl,by decide,fun t ht=>by
  rcases List.mem_cons.1 ht with rfl | ht
  · exact hr
  · rw [List.mem_singleton] at ht; subst ht; exact hr'⟩).tks
def pdB (a r k:Int):ByteArray:=if a=k then prtZ [(42,false,0),(r,decide (r=39),0)] else ⟨#[]⟩
theorem qBN (a r k:Int):(pdB a r k).size≤40:=by
 unfold pdB; split
 · exact Nat.le_trans (qLJ _) (show 16 * 2+8≤40 by decide)
 · exact Nat.zero_le _
set_option maxHeartbeats 2000000 in
theorem padding_c (PV:Array Value) (a r k:Int) (w:World) (h17:PV[17]? = some (.int .i64 a)) (h18:PV[18]? = some (.int .i32 r)) (hr : -2147483648≤r∧r≤2147483647) :
 Calls Tryz.prog 74 #[.agg PV,.int .i64 k] w fun e w'=>e=.returned (.string (pdB a r k))∧Below w.heap.size w w':=by
 have HX:Hid (GX w (w.alloc (.cells PV 24)) w.heap.size PV):=hid ⟨qA2 w _,BX.new _ _ _⟩
 have HT:=hid (fun (W:World) (b:Nat) (q:Bool) (hb:W.heap.size=b)=>qJ7 (some ⟨b,0,none⟩) 2 2 [(42,false,0),(r,q,0)] (W.alloc (.cells #[.int .i32 42,.bool false,.int .i64 0,.int .i32 r,.bool q,.int .i64 0] 58)) (by rw [← hb]; exact qME W 42 false r q (by decide) hr) (by decide))
 have HP:=hid (show pdB a r k=if a=k then prtZ [(42,false,0),(r,decide (r=39),0)] else ⟨#[]⟩ from rfl)
 generalize pdB a r k=R at *
 go_enter Tryz.func74,Tryz.ntmps74
 go_upto_region 1 with fail
 generalize w.alloc (.cells PV 24)=W at *
 generalize hg:w.heap.size=g at *
 have Hg:=hid hg
 clear hg
 have c17:=(HX.out.bx.c 17).trans h17
 have c18:=(HX.out.bx.c 18).trans h18
 have HHb:=hid HX.out.b
 by_cases hak:a=k
 · have g1:(a != k)=false:=by simpa using hak
   obtain rfl:R=_:=HP.out.trans (if_pos hak);clear hak HP
   rcases hq:decide (r=39) with _ | _
   all_goals
    have g2:(r == 39)=_:=hq;have HQ:=hid hq;clear hq
    go_wp2_with (first
     | (go_at_call 112; refine (HT.out _ _ _ rfl).mono ?_; rintro e w1 ⟨rfl,hb⟩)
     | fail)
    go_ret
    exact ⟨by rw [HQ.out]; rfl,HHb.out.trans (((Below.refl _ _).alloc (Nat.le_refl _) _ |>.trans (hb.out.mono (by simp))).mono HHb.out.size)⟩
 · have g1:(a != k)=true:=by simpa using hak
   obtain rfl:R=_:=HP.out.trans (if_neg hak);clear hak HP
   go_wp2
   go_ret
   exact ⟨rfl,HHb.out⟩
def NPr (q:Pg) (f:Int→ByteArray):Prop:=(∀ m (W:World),Mw W→m≤1000→Calls Tryz.prog 115 #[.agg (fU q.i5 q.i6 q.i7 q.i8 q.i9 q.i10 q.i11 q.i12 q.i15 q.inc q.sci q.plus),.int .i64 m] W fun e w'=>e=.returned (.string (f m))∧Below W.heap.size W w')∧∀ m,m≤1000→(f m).size≤1000000
def partB (q:Pg) (f:Int→ByteArray):ByteArray:=f (q.wid - q.pre.length - (f 0).size - q.suf.length)
set_option maxHeartbeats 4000000 in
theorem part_c (A0 A1:Option Addr) (n0 c0 n1 c1:Nat) (x3 x4:Value) (q:Pg) (f:Int→ByteArray) (w:World) (hM:Mw w) (hf:NPr q f) (hw:0≤q.wid∧q.wid≤400) (h0:n0=q.pre.length) (h1:n1=q.suf.length) (l0:n0≤1000) (l1:n1≤1000) (hi:q.inc.size≤281474976710656) :
 Calls Tryz.prog 76 #[.agg (pgV (.slice A0 n0 c0) (.slice A1 n1 c1) x3 x4 q)] w fun e w'=>e=.returned (.string (partB q f))∧Below w.heap.size w w':=by
 have HF:=hid (fun W=>fields_c (.slice A0 n0 c0) (.slice A1 n1 c1) (.bool q.neg) x3 x4 (.int .i64 q.at_) (.int .i32 q.pad) (.int .i64 q.wid) q.i5 q.i6 q.i7 q.i8 q.i9 q.i10 q.i11 q.i12 q.i15 q.inc q.sci q.plus W hi)
 change Hid (∀ W,Calls _ _ #[.agg (pgV (.slice A0 n0 c0) (.slice A1 n1 c1) x3 x4 q)] W _) at HF
 have HR:=hid (show partB q f=f (q.wid - n0 - (f 0).size - n1) by rw [h0,h1]; rfl)
 have HN:=hid hf.1
 have hs0:=hf.2 0 (by decide)
 have hsz:=qHD (.slice A0 n0 c0) (.slice A1 n1 c1) x3 x4 q
 have k0:(pgV (.slice A0 n0 c0) (.slice A1 n1 c1) x3 x4 q)[0]? = some (.slice A0 n0 c0):=rfl
 have k1:(pgV (.slice A0 n0 c0) (.slice A1 n1 c1) x3 x4 q)[1]? = some (.slice A1 n1 c1):=rfl
 have k19:(pgV (.slice A0 n0 c0) (.slice A1 n1 c1) x3 x4 q)[19]? = some (.int .i64 q.wid):=rfl
 generalize pgV (.slice A0 n0 c0) (.slice A1 n1 c1) x3 x4 q=PV at *
 have hsz2:(Tryz.prog.info? 24).map (·.size)=some (fU q.i5 q.i6 q.i7 q.i8 q.i9 q.i10 q.i11 q.i12 q.i15 q.inc q.sci q.plus).size:=psizeU
 have hcs2:(fU q.i5 q.i6 q.i7 q.i8 q.i9 q.i10 q.i11 q.i12 q.i15 q.inc q.sci q.plus).all (·.oneCell')=true:=pcellsU
 have hsz3:patZ.size=(fU q.i5 q.i6 q.i7 q.i8 q.i9 q.i10 q.i11 q.i12 q.i15 q.inc q.sci q.plus).size:=rfl
 generalize fU q.i5 q.i6 q.i7 q.i8 q.i9 q.i10 q.i11 q.i12 q.i15 q.inc q.sci q.plus=FV at *
 generalize q.wid=wd at *
 obtain ⟨hw0,hw4⟩:=hw
 generalize partB q f=R at *
 generalize hf0:f 0=F0 at *
 have HF0:=hid hf0
 have HM:=hid hM
 clear hf hM h0 h1 hf0
 have HX:Hid (GX w (w.alloc (.cells PV 24)) w.heap.size PV):=hid ⟨qA2 w _,BX.new _ _ _⟩
 go_enter Tryz.func76,Tryz.ntmps76
 go_upto_region 1 with fail
 generalize w.alloc (.cells PV 24)=W at *
 generalize hg:w.heap.size=g at *
 have Hg:=hid hg
 clear hg
 have hbx:=HX.out.bx
 go_upto_region 2 with (first
  | (refine wpList_load_row rfl 24 _ rfl g rfl 24 PV (0,0) _ hbx Tryz.underlying24 rfl hsz ?_)
  | (go_at_call 114; refine (HF.out _).mono ?_; rintro e w1 ⟨rfl,hb1⟩)
  | (refine wpList_store_row rfl 24 _ _ rfl w1.heap.size FV rfl rfl 24 patZ (BX.new w1 patZ 24) hsz2 hsz3 hcs2 ?_)
  | fail)
 change Code.wp _ _ _ _ ((w1.alloc (.cells patZ 24)).setRow w1.heap.size FV)
 have HY:Hid (GX w ((w1.alloc (.cells patZ 24)).setRow w1.heap.size FV) g PV∧BX ((w1.alloc (.cells patZ 24)).setRow w1.heap.size FV) w1.heap.size FV 24):=by
  have hX:=HX.out.below hb1;exact hid ⟨⟨(hX.b.alloc hX.b.size _).setRow hX.b.size _,(setRow_other _ _ _ _ (by have:=hX.bx.lt; omega)).trans (hX.bx.alloc _)⟩,setRow_heap _ _ _ _ _ _ (BX.new w1 patZ 24)⟩
 generalize (w1.alloc (.cells patZ 24)).setRow w1.heap.size FV=W2 at *
 generalize w1.heap.size=b at *
 clear hbx hb1 HX
 have hby:=HY.out.2
 go_upto_region 3 with (first
  | (refine wpList_load_row rfl 24 _ rfl b rfl 24 FV (0,0) _ hby Tryz.underlying24 rfl hsz2 ?_)
  | (go_at_call 115; refine (HN.out 0 _ (HM.out.below HY.out.1.b) (by decide)).mono ?_; rintro e w3 ⟨rfl,hb3⟩)
  | fail)
 rw [HF0.out]
 have HY:=hid (show GX w w3 g PV∧BX w3 b FV 24 from ⟨HY.out.1.below hb3,HY.out.2.below hb3 HY.out.2.lt⟩)
 clear hb3 hby
 have hby:=HY.out.2
 have d0:=(HY.out.1.bx.c 0).trans k0
 have d1:=(HY.out.1.bx.c 1).trans k1
 have d19:=(HY.out.1.bx.c 19).trans k19
 go_wp2_with (first
  | (refine wpList_load_row rfl 24 _ rfl b rfl 24 FV (0,0) _ hby Tryz.underlying24 rfl hsz2 ?_)
  | (go_at_call 115; refine (HN.out (wd - n0 - F0.size - n1) _ (HM.out.below HY.out.1.b) (by omega)).mono ?_; rintro e w4 ⟨rfl,hb4⟩)
  | fail)
 go_ret
 exact ⟨by rw [HR.out]; rfl,Hg.out ▸ HY.out.1.b.trans (hb4.mono HY.out.1.b.size)⟩
def fstB (q:Pg) (TP:ByteArray):ByteArray:=pdB q.at_ q.pad 1++prtZ (tksI q.pre)++pdB q.at_ q.pad 2++TP++pdB q.at_ q.pad 3++prtZ (tksI q.suf)++pdB q.at_ q.pad 4
def sndB (q:Pg):ByteArray:=if q.neg then (⟨#[59]⟩:ByteArray)++prtZ (tksI q.npre)++⟨#[48]⟩++prtZ (tksI q.nsuf) else ⟨#[]⟩
theorem qBO (is:List Itm):(prtZ (tksI is)).size≤16 * is.length+8:=by
 have h1:=qLJ (tksI is)
 have h2:=tksI_len is
 omega
theorem qHS (q:Pg) (TP:ByteArray) (h0:q.pre.length≤1000) (h1:q.suf.length≤1000) (ht:TP.size≤1000000):(fstB q TP).size≤1100000:=by
 have a1:=qBN q.at_ q.pad 1
 have a2:=qBN q.at_ q.pad 2
 have a3:=qBN q.at_ q.pad 3
 have a4:=qBN q.at_ q.pad 4
 have b0:=qBO q.pre
 have b1:=qBO q.suf
 simp only [fstB,ByteArray.size_append]
 omega
theorem qHT (q:Pg) (h0:q.npre.length≤1000) (h1:q.nsuf.length≤1000):(sndB q).size≤100000:=by
 have b0:=qBO q.npre
 have b1:=qBO q.nsuf
 unfold sndB
 split
 · simp only [ByteArray.size_append]
   have e1:(⟨#[59]⟩:ByteArray).size=1:=rfl;have e2:(⟨#[48]⟩:ByteArray).size=1:=rfl;omega
 · exact Nat.zero_le _
set_option maxHeartbeats 4000000 in
theorem first_c (PV:Array Value) (q:Pg) (TP:ByteArray) (w:World) (hM:Mw w) (h:Pgv w PV q) (hr : -2147483648≤q.pad∧q.pad≤2147483647) (l0:q.pre.length≤1000) (l1:q.suf.length≤1000) (ht:TP.size≤1000000)
 (hT:∀ W,Mw W→Calls Tryz.prog 76 #[.agg PV] W fun e w'=>e=.returned (.string TP)∧Below W.heap.size W w') :
 Calls Tryz.prog 41 #[.agg PV] w fun e w'=>e=.returned (.string (fstB q TP))∧Below w.heap.size w w':=by
 unfold fstB
 have HP:=hid (fun W k=>(show Calls Tryz.prog 74 #[.agg PV,.int .i64 k] W (fun e w'=>e=.returned (.string (pdB q.at_ q.pad k))∧Below W.heap.size W w') from by
  obtain ⟨A0,n0,c0,A1,n1,c1,A3,n3,c3,A4,n4,c4,e,-⟩:=h;subst e;exact padding_c (pgV (.slice A0 n0 c0) (.slice A1 n1 c1) (.slice A3 n3 c3) (.slice A4 n4 c4) q) q.at_ q.pad k W rfl rfl hr))
 obtain ⟨A0,n0,c0,A1,n1,c1,A3,n3,c3,A4,n4,c4,e,i0,i1,-⟩:=h
 have HA0:=hid (fun W (hb:Below w.heap.size w W)=>qF5 A0 n0 c0 q.pre W (i0.below hb) (by rw [← i0.len]; omega))
 have HA1:=hid (fun W (hb:Below w.heap.size w W)=>qF5 A1 n1 c1 q.suf W (i1.below hb) (by rw [← i1.len]; omega))
 have hsz:(Tryz.prog.info? 24).map (·.size)=some PV.size:=by rw [e]; exact qHD ..
 have k0:PV[0]? = some (.slice A0 n0 c0):=by rw [e]; rfl
 have k1:PV[1]? = some (.slice A1 n1 c1):=by rw [e]; rfl
 have HT:=hid hT
 have HM:=hid hM
 have s1:=qBN q.at_ q.pad 1
 have s2:=qBN q.at_ q.pad 2
 have s3:=qBN q.at_ q.pad 3
 have s4:=qBN q.at_ q.pad 4
 have s5:(prtZ (tksI q.pre)).size≤20000:=Nat.le_trans (qBO _) (by omega)
 have s6:(prtZ (tksI q.suf)).size≤20000:=Nat.le_trans (qBO _) (by omega)
 generalize prtZ (tksI q.pre)=S0 at *
 generalize prtZ (tksI q.suf)=S1 at *
 generalize hB:pdB q.at_ q.pad=B at *
 clear hB hM hT i0 i1 e l0 l1
 have m1:¬ 9223372036854775807 < (B 1).size+S0.size:=by omega
 have m2:¬ 9223372036854775807 < (B 1).size+S0.size+(B 2).size:=by omega
 have m3:¬ 9223372036854775807 < (B 1).size+S0.size+(B 2).size+TP.size:=by omega
 have m4:¬ 9223372036854775807 < (B 1).size+S0.size+(B 2).size+TP.size+(B 3).size:=by omega
 have m5:¬ 9223372036854775807 < (B 1).size+S0.size+(B 2).size+TP.size+(B 3).size+S1.size:=by omega
 have m6:¬ 9223372036854775807 < (B 1).size+S0.size+(B 2).size+TP.size+(B 3).size+S1.size+(B 4).size:=by omega
 have HX:Hid (GX w (w.alloc (.cells PV 24)) w.heap.size PV):=hid ⟨qA2 w _,BX.new _ _ _⟩
 go_enter Tryz.func41,Tryz.ntmps41
 go_upto_region 1 with fail
 generalize w.alloc (.cells PV 24)=W at *
 generalize hg:w.heap.size=g at *
 have Hg:=hid hg
 clear hg
 have ST:∀ W,GX w W g PV→Hid (GX w W g PV)∧W.cell? ⟨g,0,none⟩=some (.slice A0 n0 c0)∧W.cell? ⟨g,1,none⟩=some (.slice A1 n1 c1):=fun W x=>⟨hid x,(x.bx.c 0).trans k0,(x.bx.c 1).trans k1⟩
 refine wp_region_held_drew (S:=(fun W:World=>Hid (GX w W g PV)∧W.cell? ⟨g,0,none⟩=some (.slice A0 n0 c0)∧W.cell? ⟨g,1,none⟩=some (.slice A1 n1 c1))) (by kernel_rfl) (ST _ HX.out.drew) (fun hHeld=>?_)
 refine ql 0 hHeld (fun _ h=>h.1.out.bx) Tryz.underlying24 hsz ?_
 try simp only [pk]
 refine' qt 2 hHeld ?_
 try simp only [pk]
 refine' qt 3 hHeld ?_
 try simp only [pk]
 refine ql 6 hHeld (fun _ h=>h.1.out.bx) Tryz.underlying24 hsz ?_
 try simp only [pk]
 refine ql 9 hHeld (fun _ h=>h.1.out.bx) Tryz.underlying24 hsz ?_
 try simp only [pk]
 refine ql 12 hHeld (fun _ h=>h.1.out.bx) Tryz.underlying24 hsz ?_
 try simp only [pk]
 refine' qt 15 hHeld ?_
 try simp only [pk]
 refine' qt 16 hHeld ?_
 try simp only [pk]
 refine ql 19 hHeld (fun _ h=>h.1.out.bx) Tryz.underlying24 hsz ?_
 try simp only [pk]
 refine qk 1 (HP.out _ 1) (fun W hb=>ST W (hHeld.1.out.below hb)) fun W hHeld _=>?_
 try simp only [pk]
 refine qk 4 (HA0.out _ (Hg.out ▸ hHeld.1.out.b)) (fun W hb=>ST W (hHeld.1.out.below hb.out)) fun W hHeld _=>?_
 try simp only [pk]
 refine' qt 5 hHeld ?_
 try simp only [pk]
 refine qk 7 (HP.out _ 2) (fun W hb=>ST W (hHeld.1.out.below hb)) fun W hHeld _=>?_
 try simp only [pk]
 refine' qt 8 hHeld ?_
 try simp only [pk]
 refine qk 10 (HT.out _ (HM.out.below hHeld.1.out.b)) (fun W hb=>ST W (hHeld.1.out.below hb)) fun W hHeld _=>?_
 try simp only [pk]
 refine' qt 11 hHeld ?_
 try simp only [pk]
 refine qk 13 (HP.out _ 3) (fun W hb=>ST W (hHeld.1.out.below hb)) fun W hHeld _=>?_
 try simp only [pk]
 refine' qt 14 hHeld ?_
 try simp only [pk]
 refine qk 17 (HA1.out _ (Hg.out ▸ hHeld.1.out.b)) (fun W hb=>ST W (hHeld.1.out.below hb.out)) fun W hHeld _=>?_
 try simp only [pk]
 refine' qt 18 hHeld ?_
 try simp only [pk]
 refine qk 20 (HP.out _ 4) (fun W hb=>ST W (hHeld.1.out.below hb)) fun W hHeld _=>?_
 try simp only [pk]
 refine' qt 21 hHeld ?_
 try simp only [pk]
 refine' qt 22 hHeld ?_
 try simp only [pk]
 refine wpAnyH_done (by kernel_rfl) ?_ _
 clear ST
 have HXe:=hHeld.1
 clear hHeld
 go_wp2
 go_ret
 exact ⟨rfl,Hg.out ▸ HXe.out.b⟩
set_option maxHeartbeats 4000000 in
theorem second_c (PV:Array Value) (q:Pg) (w:World) (h:Pgv w PV q) (l0:q.npre.length≤1000) (l1:q.nsuf.length≤1000) :
 Calls Tryz.prog 42 #[.agg PV] w fun e w'=>e=.returned (.string (sndB q))∧Below w.heap.size w w':=by
 obtain ⟨A0,n0,c0,A1,n1,c1,A3,n3,c3,A4,n4,c4,e,-,-,i3,i4⟩:=h
 have HA3:=hid (fun W (hb:Below w.heap.size w W)=>qF5 A3 n3 c3 q.npre W (i3.below hb) (by rw [← i3.len]; omega))
 have HA4:=hid (fun W (hb:Below w.heap.size w W)=>qF5 A4 n4 c4 q.nsuf W (i4.below hb) (by rw [← i4.len]; omega))
 have k2:PV[2]? = some (.bool q.neg):=by rw [e]; rfl
 have k3:PV[3]? = some (.slice A3 n3 c3):=by rw [e]; rfl
 have k4:PV[4]? = some (.slice A4 n4 c4):=by rw [e]; rfl
 have s5:(prtZ (tksI q.npre)).size≤20000:=Nat.le_trans (qBO _) (by omega)
 have s6:(prtZ (tksI q.nsuf)).size≤20000:=Nat.le_trans (qBO _) (by omega)
 clear i3 i4 e l0 l1
 have HX:Hid (GX w (w.alloc (.cells PV 24)) w.heap.size PV):=hid ⟨qA2 w _,BX.new _ _ _⟩
 rcases hng:q.neg with _ | _
 · rw [hng] at k2
   rw [show sndB q=⟨#[]⟩ by rw [sndB,if_neg (by rw [hng]; decide)]];clear hng
   go_enter Tryz.func42,Tryz.ntmps42
   go_upto_region 1 with fail
   generalize w.alloc (.cells PV 24)=W at *;generalize hg:w.heap.size=g at *;have Hg:=hid hg;clear hg;have c2:=(HX.out.bx.c 2).trans k2
   go_wp2
   go_ret
   exact ⟨rfl,Hg.out ▸ HX.out.b⟩
 rw [hng] at k2
 rw [show sndB q=(⟨#[59]⟩:ByteArray)++prtZ (tksI q.npre)++⟨#[48]⟩++prtZ (tksI q.nsuf) by rw [sndB,if_pos hng]]
 clear hng
 generalize prtZ (tksI q.npre)=S3 at *
 generalize prtZ (tksI q.nsuf)=S4 at *
 have m1:¬ 9223372036854775807 < 1+S3.size:=by omega
 have m2:¬ 9223372036854775807 < 1+S3.size+1:=by omega
 have m3:¬ 9223372036854775807 < 1+S3.size+1+S4.size:=by omega
 go_enter Tryz.func42,Tryz.ntmps42
 go_upto_region 1 with fail
 generalize w.alloc (.cells PV 24)=W at *
 generalize hg:w.heap.size=g at *
 have Hg:=hid hg
 clear hg
 have c2:=(HX.out.bx.c 2).trans k2
 go_upto_region 3 with fail
 clear c2
 have ST:∀ W,GX w W g PV→Hid (GX w W g PV)∧W.cell? ⟨g,3,none⟩=some (.slice A3 n3 c3)∧W.cell? ⟨g,4,none⟩=some (.slice A4 n4 c4):=fun W x=>⟨hid x,(x.bx.c 3).trans k3,(x.bx.c 4).trans k4⟩
 refine wp_region_held_drew (S:=(fun W:World=>Hid (GX w W g PV)∧W.cell? ⟨g,3,none⟩=some (.slice A3 n3 c3)∧W.cell? ⟨g,4,none⟩=some (.slice A4 n4 c4))) (by kernel_rfl) (ST _ HX.out.drew) (fun hHeld=>?_)
 refine' qt 0 hHeld ?_
 try simp only [pk]
 refine' qt 1 hHeld ?_
 try simp only [pk]
 refine' qt 5 hHeld ?_
 try simp only [pk]
 refine' qt 6 hHeld ?_
 try simp only [pk]
 refine qk 2 (HA3.out _ (Hg.out ▸ hHeld.1.out.b)) (fun W hb=>ST W (hHeld.1.out.below hb.out)) fun W hHeld _=>?_
 try simp only [pk]
 refine' qt 3 hHeld ?_
 try simp only [pk]
 refine' qt 4 hHeld ?_
 try simp only [pk]
 refine qk 7 (HA4.out _ (Hg.out ▸ hHeld.1.out.b)) (fun W hb=>ST W (hHeld.1.out.below hb.out)) fun W hHeld _=>?_
 try simp only [pk]
 refine' qt 8 hHeld ?_
 try simp only [pk]
 refine' qt 9 hHeld ?_
 try simp only [pk]
 refine wpAnyH_done (by kernel_rfl) ?_ _
 clear ST
 have HXe:=hHeld.1
 clear hHeld
 go_wp2
 go_ret
 exact ⟨rfl,Hg.out ▸ HXe.out.b⟩
end Go.Proofs.YtnoeonaajefajaaGreatDoor

set_option linter.all false
set_option maxRecDepth 100000
set_option linter.unusedVariables false
namespace Go.Proofs.YtnoeonaajefajaaGreatDoor
open Go.RowKit
def tolV (q:Pg):Array Value:=#[.bool q.neg,.int .i64 q.i5,.int .i64 q.i6,.int .i64 q.i7,.int .i64 q.i8,.int .i64 q.i9,.int .i64 q.i10,.int .i64 q.i11,.int .i64 q.i12,.string q.inc,.bool q.sci,.bool q.plus,.int .i64 q.i15,.int .i64 q.at_,.int .i64 q.wid,.int .i32 q.pad]
def tolZ:Array Value:=#[.bool false,.int .i64 0,.int .i64 0,.int .i64 0,.int .i64 0,.int .i64 0,.int .i64 0,.int .i64 0,.int .i64 0,.string ⟨#[]⟩,.bool false,.bool false,.int .i64 0,.int .i64 0,.int .i64 0,.int .i32 0]
theorem tol_size (q:Pg):(Tryz.prog.info? 136).map (·.size)=some (tolV q).size:=by kernel_rfl
theorem tol_cells (q:Pg):(tolV q).all (·.oneCell')=true:=by simp [tolV,Value.oneCell']
theorem qBJ {P : Program} {w : World} {d : Nat} {xs : Array Value} {f : Field} {fs : List Field} {v : Value} (hn : (f.name != "_") = true) (hk : P.plainKey f.type = true) (hx : xs[f.offset]? = some v)
 (he:(Op.equalIn d f.type v v).run P w=.ok true w) (hr:(Op.eqFields d xs xs fs).run P w=.ok true w):(Op.eqFields d xs xs (f :: fs)).run P w=.ok true w:=by
 have hn' : f.name ≠ "_" := by simpa using hn
 simp only [Op.eqFields,hn',ne_eq,not_false_eq_true,if_true,Sem.run_bind,run_part_plain w hk hx,Result.andThen_ok,he,Bool.not_true,Bool.false_eq_true,if_false,hr]
theorem eqI {P:Program} {w:World} {d:Nat} {t:TypeId} {k:IntKind} {a:Int} (h:P.underlying t=some (.int k)):(Op.equalIn (d+1) t (.int k a) (.int k a)).run P w=.ok true w:=by rw [run_equalIn_int w d t k k a a h,beq_self_eq_true]
theorem eqB {P:Program} {w:World} {d:Nat} {t:TypeId} {a:Bool} (h:P.underlying t=some .bool):(Op.equalIn (d+1) t (.bool a) (.bool a)).run P w=.ok true w:=by rw [run_equalIn_bool w d t a a h,beq_self_eq_true]
theorem eqS {P:Program} {w:World} {d:Nat} {t:TypeId} {a:ByteArray} (h:P.underlying t=some .string):(Op.equalIn (d+1) t (.string a) (.string a)).run P w=.ok true w:=by rw [run_equalIn_string w d t a a h,beq_self_eq_true]
theorem eq_tol (q:Pg) (w:World):(Op.equalIn 10000 136 (.agg (tolV q)) (.agg (tolV q))).run Tryz.prog w=.ok true w:=by
 rw [run_equalIn_struct w 9999 _ _ _ (by kernel_rfl) (by kernel_rfl)]
 refine qBJ (by kernel_rfl) (by kernel_rfl) rfl (eqB (by kernel_rfl)) ?_
 refine qBJ (by kernel_rfl) (by kernel_rfl) rfl (eqI (by kernel_rfl)) ?_
 refine qBJ (by kernel_rfl) (by kernel_rfl) rfl (eqI (by kernel_rfl)) ?_
 refine qBJ (by kernel_rfl) (by kernel_rfl) rfl (eqI (by kernel_rfl)) ?_
 refine qBJ (by kernel_rfl) (by kernel_rfl) rfl (eqI (by kernel_rfl)) ?_
 refine qBJ (by kernel_rfl) (by kernel_rfl) rfl (eqI (by kernel_rfl)) ?_
 refine qBJ (by kernel_rfl) (by kernel_rfl) rfl (eqI (by kernel_rfl)) ?_
 refine qBJ (by kernel_rfl) (by kernel_rfl) rfl (eqI (by kernel_rfl)) ?_
 refine qBJ (by kernel_rfl) (by kernel_rfl) rfl (eqI (by kernel_rfl)) ?_
 refine qBJ (by kernel_rfl) (by kernel_rfl) rfl (eqS (by kernel_rfl)) ?_
 refine qBJ (by kernel_rfl) (by kernel_rfl) rfl (eqB (by kernel_rfl)) ?_
 refine qBJ (by kernel_rfl) (by kernel_rfl) rfl (eqB (by kernel_rfl)) ?_
 refine qBJ (by kernel_rfl) (by kernel_rfl) rfl (eqI (by kernel_rfl)) ?_
 refine qBJ (by kernel_rfl) (by kernel_rfl) rfl (eqI (by kernel_rfl)) ?_
 refine qBJ (by kernel_rfl) (by kernel_rfl) rfl (eqI (by kernel_rfl)) ?_
 refine qBJ (by kernel_rfl) (by kernel_rfl) rfl (eqI (by kernel_rfl)) ?_
 simp only [Op.eqFields,Sem.run_pure]
theorem qIV (q:Pg) {o:Oper} {ev:Operand→Value} (w:World) {x y:Operand} (ho:o.op=.binOp .eql 136 x y 136) (hx:ev x=.agg (tolV q)) (hy:ev y=.agg (tolV q)):(execOp ev o).run Tryz.prog w=.ok (.value (.bool true)) w:=by
 have he:=eq_tol q w
 generalize tolV q=V at *
 unfold execOp
 simp only [ho,hx,hy]
 have hg:(eqGuard .eql 136 x y (.agg V) (.agg V)).run Tryz.prog w=.ok () w:=run_eqGuard_agg w .eql 136 x y V V (by kernel_rfl)
 simp only [Sem.run_bind,hg,run_eql_struct,he,Result.andThen_ok,Sem.run_pure]
structure GT (w W:World) (g:Nat) (PV us:Array Value):Prop where
 bx:BX W g PV 24
 b:Below w.heap.size w W
 by_:BX W (g+1) us 136
set_option maxHeartbeats 4000000 in
theorem qHU (PV:Array Value) (x0 x1 x3 x4:Value) (q:Pg) (w:World) (he:PV=pgV x0 x1 x3 x4 q) :
 Calls Tryz.prog 116 #[.agg PV] w fun e w'=>e=.returned (.agg (tolV q))∧Below w.heap.size w w':=by
 have HX:Hid (GT w ((w.alloc (.cells PV 24)).alloc (.cells tolZ 136)) w.heap.size PV tolZ):=Lib.hid ⟨(BX.new w PV 24).alloc _,(qA2 w _).alloc (by simp) _,by have:=BX.new (w.alloc (.cells PV 24)) tolZ 136; simpa using this⟩
 have HTV:=Lib.hid (show tolV q=#[.bool q.neg,.int .i64 q.i5,.int .i64 q.i6,.int .i64 q.i7,.int .i64 q.i8,.int .i64 q.i9,.int .i64 q.i10,.int .i64 q.i11,.int .i64 q.i12,.string q.inc,.bool q.sci,.bool q.plus,.int .i64 q.i15,.int .i64 q.at_,.int .i64 q.wid,.int .i32 q.pad] from rfl)
 have hsz:=tol_size q
 have hcs:=tol_cells q
 have hzs:tolZ.size=(tolV q).size:=rfl
 have k2:PV[2]? = some (.bool q.neg):=by rw [he]; rfl
 have k5:PV[5]? = some (.int .i64 q.i5):=by rw [he]; rfl
 have k6:PV[6]? = some (.int .i64 q.i6):=by rw [he]; rfl
 have k7:PV[7]? = some (.int .i64 q.i7):=by rw [he]; rfl
 have k8:PV[8]? = some (.int .i64 q.i8):=by rw [he]; rfl
 have k9:PV[9]? = some (.int .i64 q.i9):=by rw [he]; rfl
 have k10:PV[10]? = some (.int .i64 q.i10):=by rw [he]; rfl
 have k11:PV[11]? = some (.int .i64 q.i11):=by rw [he]; rfl
 have k12:PV[12]? = some (.int .i64 q.i12):=by rw [he]; rfl
 have k13:PV[13]? = some (.string q.inc):=by rw [he]; rfl
 have k14:PV[14]? = some (.bool q.sci):=by rw [he]; rfl
 have k16:PV[16]? = some (.bool q.plus):=by rw [he]; rfl
 have k15:PV[15]? = some (.int .i64 q.i15):=by rw [he]; rfl
 have k17:PV[17]? = some (.int .i64 q.at_):=by rw [he]; rfl
 have k19:PV[19]? = some (.int .i64 q.wid):=by rw [he]; rfl
 have k18:PV[18]? = some (.int .i32 q.pad):=by rw [he]; rfl
 clear he
 go_enter Tryz.func116,Tryz.ntmps116
 go_upto_region 1 with fail
 change Code.wp _ _ _ _ ((w.alloc (.cells PV 24)).alloc (.cells tolZ 136))
 generalize (w.alloc (.cells PV 24)).alloc (.cells tolZ 136)=W at *
 generalize hg:w.heap.size=g at *
 have Hg:=Lib.hid hg
 clear hg
 have c2:=(HX.out.bx.c 2).trans k2
 have c5:=(HX.out.bx.c 5).trans k5
 have c6:=(HX.out.bx.c 6).trans k6
 have c7:=(HX.out.bx.c 7).trans k7
 have c8:=(HX.out.bx.c 8).trans k8
 have c9:=(HX.out.bx.c 9).trans k9
 have c10:=(HX.out.bx.c 10).trans k10
 have c11:=(HX.out.bx.c 11).trans k11
 have c12:=(HX.out.bx.c 12).trans k12
 have c13:=(HX.out.bx.c 13).trans k13
 have c14:=(HX.out.bx.c 14).trans k14
 have c16:=(HX.out.bx.c 16).trans k16
 have c15:=(HX.out.bx.c 15).trans k15
 have c17:=(HX.out.bx.c 17).trans k17
 have c19:=(HX.out.bx.c 19).trans k19
 have c18:=(HX.out.bx.c 18).trans k18
 have hby:=HX.out.by_
 rw [HTV.out] at hsz hcs hzs
 generalize q.neg=v2 at *
 generalize q.i5=v5 at *
 generalize q.i6=v6 at *
 generalize q.i7=v7 at *
 generalize q.i8=v8 at *
 generalize q.i9=v9 at *
 generalize q.i10=v10 at *
 generalize q.i11=v11 at *
 generalize q.i12=v12 at *
 generalize q.inc=v13 at *
 generalize q.sci=v14 at *
 generalize q.plus=v16 at *
 generalize q.i15=v15 at *
 generalize q.at_=v17 at *
 generalize q.wid=v19 at *
 generalize q.pad=v18 at *
 go_wp2_with (first
  | (refine wpList_store_row rfl 136 _ _ rfl (g+1) _ rfl rfl 136 tolZ hby hsz hzs hcs ?_)
  | fail)
 exact bodyPost_ret (v:=.agg _) (results_cell_row Tryz.results116 _ _ (g+1) 136 _ (0,0) _ rfl (setRow_heap _ _ _ _ _ _ hby) Tryz.underlying136 rfl hsz) rfl ⟨by rw [HTV.out],Hg.out ▸ HX.out.b.setRow (by have:=Hg.out; omega) _⟩
end Go.Proofs.YtnoeonaajefajaaGreatDoor
