import Derived.Deep.DeepCutAuto
import Derived.Test.YtnoeonaajefajaaGreatDoorQNO
set_option linter.all false
set_option maxRecDepth 100000
namespace Go.Proofs.YtnoeonaajefajaaGreatDoor
open Go.RowKit
open Lib (hid)
section
variable {P:Program} {ops:Array Oper} {Q:Exit→Act→World→Prop} {md:Region.Mode} {S:World→Prop}
theorem step_two (i j:Nat) {oi oj:Oper} {ri rj:List Oper} {fuel:Nat} {listed:Array Bool} {a:Act} {w:World} (hr:Region.ready md ops listed=[i,j]) (hi:ops.toList.drop i=oi :: ri) (hj:ops.toList.drop j=oj :: rj)
 (hwi:Region.wanted oi (yielded ops a.tmps)=true) (hwj:Region.wanted oj (yielded ops a.tmps)=true)
 (h1:∀ K':Act→World→Prop,Shut (∀ a w,S w→(S w→wpAnyH P md ops Q S fuel (listed.setIfInBounds i true) a w)→K' a w)→Oper.wp P oi a w K' Q)
 (h2:∀ K':Act→World→Prop,Shut (∀ a w,S w→(S w→wpAnyH P md ops Q S fuel (listed.setIfInBounds j true) a w)→K' a w)→Oper.wp P oj a w K' Q):wpAnyH P md ops Q S (fuel+1) listed a w:=
 wpAnyH_ready hr (by simp) (AllReadyH.cons (qCR hi) (fun K hK=>by rw [if_pos hwi]; exact h1 K hK) (AllReadyH.cons (qCR hj) (fun K hK=>by rw [if_pos hwj]; exact h2 K hK) AllReadyH.nil))
end
theorem _root_.Go.RowKit.Below.setRow {B:Nat} {a w:World} (h:Below B a w) {g:Nat} (hg:B≤g) (cs:Array Value):Below B a (w.setRow g cs):=
 ⟨h.os,h.tape,h.output,by rw [setRow_size]; exact h.size,fun k hk=>(setRow_other w g k cs (by omega)).trans (h.block k hk)⟩
theorem qA5 (p:NF):(patN p).all (·.oneCell')=true:=by simp [patN,patV,Value.oneCell']
section
variable {w0 W:World} {g r h:Nat} {m:ByteArray} {sc:Bool} {ex wh fr:ByteArray} {pt:Bool} {ba:ByteArray} {p:NF}
theorem PX.setRow (x:PX w0 W g m sc ex wh fr pt ba) (hg:g < h) (h0:w0.heap.size≤g) (cs:Array Value):PX w0 (W.setRow h cs) g m sc ex wh fr pt ba:=
 ⟨x.b.setRow (by omega) cs,x.m0,(setRow_other W h g cs (Nat.ne_of_lt hg)).trans x.bx⟩
structure QX (w0 W:World) (g r h:Nat) (m:ByteArray) (sc:Bool) (ex wh fr:ByteArray) (pt:Bool) (ba:ByteArray) (p:NF):Prop where
 px:PX w0 W g m sc ex wh fr pt ba
 br:BX W r patZ 24
 bh:BX W h (patN p) 24
 h0:w0.heap.size≤g
 h1:g < r
 h2:r < h
theorem QX.set (x:QX w0 W g r h m sc ex wh fr pt ba p) (j:Nat) (v:Value) (p':NF) (e:(patN p).setIfInBounds j v=patN p'):QX w0 (W.setCell ⟨h,j,none⟩ v) g r h m sc ex wh fr pt ba p':=
 have hh:w0.heap.size≤h:=by have:=x.h0; have:=x.h1; have:=x.h2; omega
 have hgh:g < h:=Nat.lt_trans x.h1 x.h2
 ⟨⟨x.px.b.setCell (p:=⟨h,j,none⟩) hh v,x.px.m0,(heap_setCell_other W ⟨h,j,none⟩ g v (Nat.ne_of_lt hgh)).trans x.px.bx⟩,(heap_setCell_other W ⟨h,j,none⟩ r v (Nat.ne_of_lt x.h2)).trans x.br,e ▸ heap_setCell_same W h j (patN p) 24 v x.bh,x.h0,x.h1,x.h2⟩
theorem QX.below {W':World} (x:QX w0 W g r h m sc ex wh fr pt ba p) (hb:Below W.heap.size W W'):QX w0 W' g r h m sc ex wh fr pt ba p:=
 ⟨x.px.below hb,x.br.below hb x.br.lt,x.bh.below hb x.bh.lt,x.h0,x.h1,x.h2⟩
def PMid (w0:World) (g:Nat) (m:ByteArray) (sc:Bool) (ex wh fr:ByteArray) (pt:Bool) (ba:ByteArray) (p:NF) (u:Value) (W':World):Prop:=u=.pointer (some ⟨g+2,0,none⟩)∧QX w0 W' g (g+1) (g+2) m sc ex wh fr pt ba p
theorem PMid.of (hz:w0.heap.size=g) (hsz:W.heap.size=g+2) (hr:BX W (g+1) patZ 24) (x:PX w0 W g m sc ex wh fr pt ba) (p:NF):PMid w0 g m sc ex wh fr pt ba p (.pointer (some ⟨W.heap.size,0,none⟩)) ((W.alloc (.cells patZ 24)).setRow W.heap.size (patN p)):=by
 have hn:BX (W.alloc (.cells patZ 24)) W.heap.size patZ 24:=BX.new _ _ _
 have h1:=hr.alloc (.cells patZ 24)
 have h2:=x.below (qA2 W (.cells patZ 24))
 rw [hsz] at hn ⊢
 exact ⟨rfl,h2.setRow (by omega) (by omega) _,(setRow_other _ _ _ _ (by omega)).trans h1,setRow_heap _ _ patZ _ _ _ hn,by omega,by omega,by omega⟩
end
set_option maxHeartbeats 8000000 in
theorem qLW (m:ByteArray) (sc:Bool) (ex wh fr:ByteArray) (pt:Bool) (ba:ByteArray) (w:World) (hM:Mw w) (hs:ba.size+fr.size < 4294967281) (hs2:wh.size < 4294967281) :
 Calls Tryz.prog 131 #[.agg (ptV m sc ex wh fr pt ba)] w fun e w'=>e=.returned (.agg (patN (patP ⟨bts m,sc,bts ex,bts wh,bts fr,pt,bts ba⟩)))∧Below w.heap.size w w':=by
 generalize hpp:patP ⟨bts m,sc,bts ex,bts wh,bts fr,pt,bts ba⟩=PP
 have HPP:=hid hpp
 clear hpp
 have HX:=hid ((PX.new (m:=m) (sc:=sc) (ex:=ex) (wh:=wh) (fr:=fr) (pt:=pt) (ba:=ba) hM).below (qA2 _ (.cells patZ 24)))
 have HR:Hid (BX ((w.alloc (.cells (ptV m sc ex wh fr pt ba) 156)).alloc (.cells patZ 24)) (w.heap.size+1) patZ 24):=hid (by
  have:=BX.new (w.alloc (.cells (ptV m sc ex wh fr pt ba) 156)) patZ 24
  simpa using this)
 have HSZ:Hid (((w.alloc (.cells (ptV m sc ex wh fr pt ba) 156)).alloc (.cells patZ 24)).heap.size=w.heap.size+2):=hid (by simp)
 clear hM
 go_enter Tryz.func131,Tryz.ntmps131
 go_upto_region 1 with fail
 change Code.wp _ _ _ _ ((w.alloc (.cells (ptV m sc ex wh fr pt ba) 156)).alloc (.cells patZ 24))
 generalize (w.alloc (.cells (ptV m sc ex wh fr pt ba) 156)).alloc (.cells patZ 24)=W at *
 generalize hg:w.heap.size=g at *
 have Hg:=hid hg
 clear hg
 have H1:Hid (∀ W,Calls Tryz.prog 171 #[.string ex,.string ⟨#[43]⟩] W fun e w'=>e=.returned (.bool (decide ((bts ex).head? = some 43)))∧W=w'):=hid (fun W=>qFS ex 43 W)
 have H2:Hid (∀ W,Calls Tryz.prog 190 #[.string ex,.string ⟨#[48]⟩] W fun e w'=>e=.returned (.int .i64 (((bts ex).countP z48:Nat):Int))∧W=w'):=hid (fun W=>qJG ex 48 W)
 have HER:Hid (PP=if cntd ⟨bts m,sc,bts ex,bts wh,bts fr,pt,bts ba⟩ then { minSig:=(bts ba).countP a64,maxSig:=(stz ((bts ba).dropWhile h35)).size,prim:=primZ (spl (bts wh) 0),sec:=secZ (spl (bts wh) 0),sci:=sc,minExp:=(bts ex).countP z48,plus:=decide ((bts ex).head? = some 43) }
  else { minInt:=(stz ((bts ba).dropWhile h35)).size,maxInt:=if sc then wh.size else 0,minFrac:=(stz (trR (bts fr))).size,maxFrac:=fr.size,prim:=primZ (spl (bts wh) 0),sec:=secZ (spl (bts wh) 0),inc:=incZ (bts ba++bts fr),sci:=sc,minExp:=(bts ex).countP z48,plus:=decide ((bts ex).head? = some 43) }):=hid (by
  rw [← HPP.out,qA9,qA9,← qA1 fr,← qA1 wh]; rfl)
 clear HPP
 have HCT:=hid (fun W (h:Mw W)=>cntd_c m sc ex wh fr pt ba W h)
 have HS:=hid (fun W=>sizes_c wh W hs2)
 have HC:Hid (∀ W,Calls Tryz.prog 190 #[.string ba,.string ⟨#[64]⟩] W fun e w'=>e=.returned (.int .i64 (((bts ba).countP a64:Nat):Int))∧W=w'):=hid (fun W=>qJG ba 64 W)
 have HTL:Hid (∀ W,Calls Tryz.prog 193 #[.string ba,.string ⟨#[35]⟩] W fun e w'=>e=.returned (.string (stz ((bts ba).dropWhile h35)))∧W=w'):=hid (fun W=>qID ba 35 (by decide) W)
 have HTR:Hid (∀ W,Calls Tryz.prog 139 #[.string fr,.string ⟨#[35]⟩] W fun e w'=>e=.returned (.string (stz (trR (bts fr))))∧W=w'):=hid (fun W=>qLT fr 35 (by decide) W (by omega))
 have HST:=hid (fun W (h:Mw W)=>step15_c m sc ex wh fr pt ba W h hs)
 generalize cntd ⟨bts m,sc,bts ex,bts wh,bts fr,pt,bts ba⟩=bc at *
 generalize decide ((bts ex).head? = some 43)=pl at *
 generalize (bts ex).countP z48=me at *
 generalize (bts ba).countP a64=cA at *
 generalize stz ((bts ba).dropWhile h35)=T1 at *
 generalize stz (trR (bts fr))=T2 at *
 generalize incZ (bts ba++bts fr)=iL at *
 generalize primZ (spl (bts wh) 0)=pr at *
 generalize secZ (spl (bts wh) 0)=se at *
 go_cut [3] (PMid w g m sc ex wh fr pt ba { sci:=sc,minExp:=me,plus:=pl })
 case first=>
  refine wp_region_held_drew (S:=(fun W:World=>Hid (PX w W g m sc ex wh fr pt ba)∧W.cell? ⟨g,0,none⟩=some (.string m)∧W.cell? ⟨g,1,none⟩=some (.bool sc)∧W.cell? ⟨g,2,none⟩=some (.string ex)∧W.cell? ⟨g,3,none⟩=some (.string wh)∧W.cell? ⟨g,4,none⟩=some (.string fr)∧W.cell? ⟨g,5,none⟩=some (.bool pt)∧W.cell? ⟨g,6,none⟩=some (.string ba))) (by kernel_rfl) (PX.S HX.out.drew) (fun hHeld=>?_);refine' qt 0 hHeld ?_
  try simp only [pk]
  refine' qt 1 hHeld ?_
  try simp only [pk]
  refine' qt 2 hHeld ?_
  try simp only [pk]
  refine' qt 3 hHeld ?_
  try simp only [pk]
  refine' qt 5 hHeld ?_
  try simp only [pk]
  refine' qt 6 hHeld ?_
  try simp only [pk]
  refine step_two 4 9 (by kernel_rfl) rfl rfl rfl rfl (fun K hK=>?_) (fun K hK=>?_)
  · go_simp
    refine (H1.out _).mono ?_;rintro r w1 ⟨rfl,rfl⟩
    go_wp2_with fail
    refine hK.out _ _ hHeld (fun hHeld=>?_);clear hK K
    try simp only [pk]
    refine step_two 7 9 (by kernel_rfl) rfl rfl rfl rfl (fun K hK=>?_) (fun K hK=>?_)
    · go_simp
      refine (H2.out _).mono ?_;rintro r w1 ⟨rfl,rfl⟩
      go_wp2_with fail
      refine hK.out _ _ hHeld (fun hHeld=>?_);clear hK K
      try simp only [pk]
      refine' qt 8 hHeld ?_
      try simp only [pk]
      refine qp 9 fun K hK=>?_;go_simp;refine hK.out _ _ (PX.S (hHeld.1.out.below (qA2 _ (.cells patZ 24)))) (fun hHeld=>?_);clear hK K
      try simp only [pk]
      refine qp 10 fun K hK=>?_;refine wp_store_row 24 _ _ rfl _ (patN { sci:=sc,minExp:=me,plus:=pl }) rfl rfl 24 patZ (BX.new _ patZ 24) (qA0 ..) rfl (qA5 _) ?_;refine hK.out _ _ (PX.S (hHeld.1.out.setRow (by have:=HSZ.out; show g < W.heap.size; omega) (Nat.le_of_eq Hg.out) _)) (fun hHeld=>?_);clear hK K
      try simp only [Act.put]
      refine wpAnyH_done (by kernel_rfl) ?_ _
      go_wp2_with fail
      go_meet
      exact PMid.of (W:=W.drew) Hg.out HSZ.out HR.out HX.out.drew _
    · go_simp
      refine hK.out _ _ (PX.S (hHeld.1.out.below (qA2 _ (.cells patZ 24)))) (fun hHeld=>?_);clear hK K
      try simp only [pk]
      refine qp 7 fun K hK=>?_;go_simp;refine (H2.out _).mono ?_;rintro r w1 ⟨rfl,rfl⟩
      go_wp2_with fail
      refine hK.out _ _ hHeld (fun hHeld=>?_);clear hK K
      try simp only [pk]
      refine' qt 8 hHeld ?_
      try simp only [pk]
      refine qp 10 fun K hK=>?_;refine wp_store_row 24 _ _ rfl _ (patN { sci:=sc,minExp:=me,plus:=pl }) rfl rfl 24 patZ (BX.new _ patZ 24) (qA0 ..) rfl (qA5 _) ?_;refine hK.out _ _ (PX.S (hHeld.1.out.setRow (by have:=HSZ.out; show g < W.heap.size; omega) (Nat.le_of_eq Hg.out) _)) (fun hHeld=>?_);clear hK K
      try simp only [Act.put]
      refine wpAnyH_done (by kernel_rfl) ?_ _
      go_wp2_with fail
      go_meet
      exact PMid.of (W:=W.drew) Hg.out HSZ.out HR.out HX.out.drew _
  · go_simp
    refine hK.out _ _ (PX.S (hHeld.1.out.below (qA2 _ (.cells patZ 24)))) (fun hHeld=>?_);clear hK K
    try simp only [pk]
    refine qp 4 fun K hK=>?_;go_simp;refine (H1.out _).mono ?_;rintro r w1 ⟨rfl,rfl⟩
    go_wp2_with fail
    refine hK.out _ _ hHeld (fun hHeld=>?_);clear hK K
    try simp only [pk]
    refine qp 7 fun K hK=>?_;go_simp;refine (H2.out _).mono ?_;rintro r w1 ⟨rfl,rfl⟩
    go_wp2_with fail
    refine hK.out _ _ hHeld (fun hHeld=>?_);clear hK K
    try simp only [pk]
    refine' qt 8 hHeld ?_
    try simp only [pk]
    refine qp 10 fun K hK=>?_;refine wp_store_row 24 _ _ rfl _ (patN { sci:=sc,minExp:=me,plus:=pl }) rfl rfl 24 patZ (BX.new _ patZ 24) (qA0 ..) rfl (qA5 _) ?_;refine hK.out _ _ (PX.S (hHeld.1.out.setRow (by have:=HSZ.out; show g < W.heap.size; omega) (Nat.le_of_eq Hg.out) _)) (fun hHeld=>?_);clear hK K
    try simp only [Act.put]
    refine wpAnyH_done (by kernel_rfl) ?_ _
    go_wp2_with fail
    go_meet
    exact PMid.of (W:=W.drew) Hg.out HSZ.out HR.out HX.out.drew _
 case rest=>
 obtain ⟨rfl,hq⟩:=hcut
 have HQ:=hid hq
 clear hq HX HR HSZ H1 H2
 obtain ⟨c0,c1,c2,c3,c4,c5,c6⟩:=HQ.out.px.cells
 have d11:=HQ.out.bh.v 11 rfl
 have f11:=HQ.out.bh.fr 11
 have d12:=HQ.out.bh.v 12 rfl
 have f12:=HQ.out.bh.fr 12
 go_upto_region 3 with (go_at_call 191; refine (HS.out _).mono ?_; rintro e w' ⟨rfl,rfl⟩)
 have HQ:=hid ((HQ.out.set 11 (.int .i64 (pr:Int)) { sci:=sc,minExp:=me,plus:=pl,prim:=pr } rfl).set 12 (.int .i64 (se:Int)) { sci:=sc,minExp:=me,plus:=pl,prim:=pr,sec:=se } rfl)
 clear c0 c1 c2 c3 c4 c5 c6 d11 f11 d12 f12
 generalize ((wc.setCell ⟨g+2,11,none⟩ (.int .i64 (pr:Int))).setCell ⟨g+2,12,none⟩ (.int .i64 (se:Int)))=V1a at *
 obtain ⟨c0,c1,c2,c3,c4,c5,c6⟩:=HQ.out.px.cells
 rcases bc with _ | _
 · rcases sc with _ | _
   · go_upto_region 7 with (go_at_call 192; refine (HCT.out _ HQ.out.px.mw).mono ?_; rintro e W3 ⟨rfl,hbx⟩; have HQ:=hid (HQ.out.below hbx); clear hbx)
     obtain ⟨c0,c1,c2,c3,c4,c5,c6⟩:=HQ.out.px.cells;have d5:=HQ.out.bh.v 5 rfl;have f5:=HQ.out.bh.fr 5
     go_upto_region 8 with (go_at_call 193; refine (HTL.out _).mono ?_; rintro e w' ⟨rfl,rfl⟩)
     have HQ:=hid (HQ.out.set 5 (.int .i64 (T1.size:Int)) { sci:=false,minExp:=me,plus:=pl,prim:=pr,sec:=se,minInt:=T1.size } rfl);clear c0 c1 c2 c3 c4 c5 c6 d5 f5;generalize (W3.setCell ⟨g+2,5,none⟩ (.int .i64 (T1.size:Int)))=V1b at *;obtain ⟨c0,c1,c2,c3,c4,c5,c6⟩:=HQ.out.px.cells;have d7:=HQ.out.bh.v 7 rfl;have f7:=HQ.out.bh.fr 7
     go_upto_region 9 with (go_at_call 139; refine (HTR.out _).mono ?_; rintro e w' ⟨rfl,rfl⟩)
     have HQ:=hid (HQ.out.set 7 (.int .i64 (T2.size:Int)) { sci:=false,minExp:=me,plus:=pl,prim:=pr,sec:=se,minInt:=T1.size,minFrac:=T2.size } rfl);clear c0 c1 c2 c3 c4 c5 c6 d7 f7;generalize (V1b.setCell ⟨g+2,7,none⟩ (.int .i64 (T2.size:Int)))=V2b at *;obtain ⟨c0,c1,c2,c3,c4,c5,c6⟩:=HQ.out.px.cells;have d8:=HQ.out.bh.v 8 rfl;have f8:=HQ.out.bh.fr 8
     go_upto_region 10 with fail
     have HQ:=hid (HQ.out.set 8 (.int .i64 (fr.size:Int)) { sci:=false,minExp:=me,plus:=pl,prim:=pr,sec:=se,minInt:=T1.size,minFrac:=T2.size,maxFrac:=fr.size } rfl);clear c0 c1 c2 c3 c4 c5 c6 d8 f8;generalize (V2b.setCell ⟨g+2,8,none⟩ (.int .i64 (fr.size:Int)))=V3b at *;obtain ⟨c0,c1,c2,c3,c4,c5,c6⟩:=HQ.out.px.cells
     go_upto_region 11 with (go_at_call 194; refine (HST.out _ HQ.out.px.mw).mono ?_; rintro e W4 ⟨rfl,hbx⟩; have HQ:=hid (HQ.out.below hbx); have d13:=HQ.out.bh.v 13 rfl; have f13:=HQ.out.bh.fr 13; clear hbx)
     have HQ:=hid (HQ.out.set 13 (.string (stz iL)) { sci:=false,minExp:=me,plus:=pl,prim:=pr,sec:=se,minInt:=T1.size,minFrac:=T2.size,maxFrac:=fr.size,inc:=iL } rfl);clear c0 c1 c2 c3 c4 c5 c6 d13 f13;generalize (W4.setCell ⟨g+2,13,none⟩ (.string (stz iL)))=V4b at *;obtain ⟨c0,c1,c2,c3,c4,c5,c6⟩:=HQ.out.px.cells
     go_upto_region 13 with fail
     go_wp2_with (first
      | (refine wpList_load_row rfl 24 _ rfl (g+2) rfl 24 _ (0,0) _ HQ.out.bh Tryz.underlying24 rfl (qA0 ..) ?_)
      | (refine wpList_store_row rfl 24 _ _ rfl (g+1) _ rfl rfl 24 patZ HQ.out.br (qA0 ..) rfl (qA5 _) ?_))
     obtain rfl:PP={ sci:=false,minExp:=me,plus:=pl,prim:=pr,sec:=se,minInt:=T1.size,minFrac:=T2.size,maxFrac:=fr.size,inc:=iL,maxInt:=0 }:=HER.out;exact bodyPost_ret (v:=.agg (patN { sci:=false,minExp:=me,plus:=pl,prim:=pr,sec:=se,minInt:=T1.size,minFrac:=T2.size,maxFrac:=fr.size,inc:=iL,maxInt:=0 })) (results_cell_row Tryz.results131 _ _ (g+1) 24 _ (0,0) _ rfl (setRow_heap _ _ _ _ _ _ HQ.out.br) Tryz.underlying24 rfl (qA0 ..)) rfl ⟨rfl,HQ.out.px.b.setRow (by have:=Hg.out; omega) _⟩
   · go_upto_region 7 with (go_at_call 192; refine (HCT.out _ HQ.out.px.mw).mono ?_; rintro e W3 ⟨rfl,hbx⟩; have HQ:=hid (HQ.out.below hbx); clear hbx)
     obtain ⟨c0,c1,c2,c3,c4,c5,c6⟩:=HQ.out.px.cells;have d5:=HQ.out.bh.v 5 rfl;have f5:=HQ.out.bh.fr 5
     go_upto_region 8 with (go_at_call 193; refine (HTL.out _).mono ?_; rintro e w' ⟨rfl,rfl⟩)
     have HQ:=hid (HQ.out.set 5 (.int .i64 (T1.size:Int)) { sci:=true,minExp:=me,plus:=pl,prim:=pr,sec:=se,minInt:=T1.size } rfl);clear c0 c1 c2 c3 c4 c5 c6 d5 f5;generalize (W3.setCell ⟨g+2,5,none⟩ (.int .i64 (T1.size:Int)))=V1b at *;obtain ⟨c0,c1,c2,c3,c4,c5,c6⟩:=HQ.out.px.cells;have d7:=HQ.out.bh.v 7 rfl;have f7:=HQ.out.bh.fr 7
     go_upto_region 9 with (go_at_call 139; refine (HTR.out _).mono ?_; rintro e w' ⟨rfl,rfl⟩)
     have HQ:=hid (HQ.out.set 7 (.int .i64 (T2.size:Int)) { sci:=true,minExp:=me,plus:=pl,prim:=pr,sec:=se,minInt:=T1.size,minFrac:=T2.size } rfl);clear c0 c1 c2 c3 c4 c5 c6 d7 f7;generalize (V1b.setCell ⟨g+2,7,none⟩ (.int .i64 (T2.size:Int)))=V2b at *;obtain ⟨c0,c1,c2,c3,c4,c5,c6⟩:=HQ.out.px.cells;have d8:=HQ.out.bh.v 8 rfl;have f8:=HQ.out.bh.fr 8
     go_upto_region 10 with fail
     have HQ:=hid (HQ.out.set 8 (.int .i64 (fr.size:Int)) { sci:=true,minExp:=me,plus:=pl,prim:=pr,sec:=se,minInt:=T1.size,minFrac:=T2.size,maxFrac:=fr.size } rfl);clear c0 c1 c2 c3 c4 c5 c6 d8 f8;generalize (V2b.setCell ⟨g+2,8,none⟩ (.int .i64 (fr.size:Int)))=V3b at *;obtain ⟨c0,c1,c2,c3,c4,c5,c6⟩:=HQ.out.px.cells
     go_upto_region 11 with (go_at_call 194; refine (HST.out _ HQ.out.px.mw).mono ?_; rintro e W4 ⟨rfl,hbx⟩; have HQ:=hid (HQ.out.below hbx); have d13:=HQ.out.bh.v 13 rfl; have f13:=HQ.out.bh.fr 13; clear hbx)
     have HQ:=hid (HQ.out.set 13 (.string (stz iL)) { sci:=true,minExp:=me,plus:=pl,prim:=pr,sec:=se,minInt:=T1.size,minFrac:=T2.size,maxFrac:=fr.size,inc:=iL } rfl);clear c0 c1 c2 c3 c4 c5 c6 d13 f13;generalize (W4.setCell ⟨g+2,13,none⟩ (.string (stz iL)))=V4b at *;obtain ⟨c0,c1,c2,c3,c4,c5,c6⟩:=HQ.out.px.cells
     go_upto_region 12 with fail
     have d6:=HQ.out.bh.v 6 rfl;have f6:=HQ.out.bh.fr 6
     go_upto_region 13 with fail
     have HQ:=hid (HQ.out.set 6 (.int .i64 (wh.size:Int)) { sci:=true,minExp:=me,plus:=pl,prim:=pr,sec:=se,minInt:=T1.size,minFrac:=T2.size,maxFrac:=fr.size,inc:=iL,maxInt:=wh.size } rfl);clear c0 c1 c2 c3 c4 c5 c6 d6 f6;generalize (V4b.setCell ⟨g+2,6,none⟩ (.int .i64 (wh.size:Int)))=V5b at *
     go_wp2_with (first
      | (refine wpList_load_row rfl 24 _ rfl (g+2) rfl 24 _ (0,0) _ HQ.out.bh Tryz.underlying24 rfl (qA0 ..) ?_)
      | (refine wpList_store_row rfl 24 _ _ rfl (g+1) _ rfl rfl 24 patZ HQ.out.br (qA0 ..) rfl (qA5 _) ?_))
     obtain rfl:PP={ sci:=true,minExp:=me,plus:=pl,prim:=pr,sec:=se,minInt:=T1.size,minFrac:=T2.size,maxFrac:=fr.size,inc:=iL,maxInt:=wh.size }:=HER.out;exact bodyPost_ret (v:=.agg (patN { sci:=true,minExp:=me,plus:=pl,prim:=pr,sec:=se,minInt:=T1.size,minFrac:=T2.size,maxFrac:=fr.size,inc:=iL,maxInt:=wh.size })) (results_cell_row Tryz.results131 _ _ (g+1) 24 _ (0,0) _ rfl (setRow_heap _ _ _ _ _ _ HQ.out.br) Tryz.underlying24 rfl (qA0 ..)) rfl ⟨rfl,HQ.out.px.b.setRow (by have:=Hg.out; omega) _⟩
 · go_upto_region 4 with (go_at_call 192; refine (HCT.out _ HQ.out.px.mw).mono ?_; rintro e W3 ⟨rfl,hbx⟩; have HQ:=hid (HQ.out.below hbx); clear hbx)
   obtain ⟨c0,c1,c2,c3,c4,c5,c6⟩:=HQ.out.px.cells;have d9:=HQ.out.bh.v 9 rfl;have f9:=HQ.out.bh.fr 9
   go_upto_region 5 with (go_at_call 190; refine (HC.out _).mono ?_; rintro e w' ⟨rfl,rfl⟩)
   have HQ:=hid (HQ.out.set 9 (.int .i64 (cA:Int)) { sci:=sc,minExp:=me,plus:=pl,prim:=pr,sec:=se,minSig:=cA } rfl);clear c0 c1 c2 c3 c4 c5 c6 d9 f9;generalize (W3.setCell ⟨g+2,9,none⟩ (.int .i64 (cA:Int)))=V1b at *;obtain ⟨c0,c1,c2,c3,c4,c5,c6⟩:=HQ.out.px.cells;have d10:=HQ.out.bh.v 10 rfl;have f10:=HQ.out.bh.fr 10
   go_upto_region 6 with (go_at_call 193; refine (HTL.out _).mono ?_; rintro e w' ⟨rfl,rfl⟩)
   have HQ:=hid (HQ.out.set 10 (.int .i64 (T1.size:Int)) { sci:=sc,minExp:=me,plus:=pl,prim:=pr,sec:=se,minSig:=cA,maxSig:=T1.size } rfl);clear c0 c1 c2 c3 c4 c5 c6 d10 f10;generalize (V1b.setCell ⟨g+2,10,none⟩ (.int .i64 (T1.size:Int)))=V2b at *
   go_wp2_with (first
    | (refine wpList_load_row rfl 24 _ rfl (g+2) rfl 24 _ (0,0) _ HQ.out.bh Tryz.underlying24 rfl (qA0 ..) ?_)
    | (refine wpList_store_row rfl 24 _ _ rfl (g+1) _ rfl rfl 24 patZ HQ.out.br (qA0 ..) rfl (qA5 _) ?_))
   obtain rfl:PP={ sci:=sc,minExp:=me,plus:=pl,prim:=pr,sec:=se,minSig:=cA,maxSig:=T1.size }:=HER.out;exact bodyPost_ret (v:=.agg (patN { sci:=sc,minExp:=me,plus:=pl,prim:=pr,sec:=se,minSig:=cA,maxSig:=T1.size })) (results_cell_row Tryz.results131 _ _ (g+1) 24 _ (0,0) _ rfl (setRow_heap _ _ _ _ _ _ HQ.out.br) Tryz.underlying24 rfl (qA0 ..)) rfl ⟨rfl,HQ.out.px.b.setRow (by have:=Hg.out; omega) _⟩
set_option maxHeartbeats 1000000 in
theorem er9_c (m:ByteArray) (sc:Bool) (ex wh fr:ByteArray) (pt:Bool) (ba:ByteArray) (w:World) (hM:Mw w) (hs:ba.size+fr.size < 4294967281) (hs2:wh.size < 4294967281) :
 Calls Tryz.prog 189 #[.agg (ptV m sc ex wh fr pt ba)] w fun e w'=>e=.returned (.int .i64 ((er9 ⟨bts m,sc,bts ex,bts wh,bts fr,pt,bts ba⟩:Nat):Int))∧Below w.heap.size w w':=by
 have HX:=hid (PX.new (m:=m) (sc:=sc) (ex:=ex) (wh:=wh) (fr:=fr) (pt:=pt) (ba:=ba) hM)
 obtain ⟨c0,c1,c2,c3,c4,c5,c6⟩:=HX.out.cells
 clear hM
 generalize hW:w.alloc (.cells (ptV m sc ex wh fr pt ba) 156)=W at *
 have HW:=hid hW
 clear hW
 generalize hg:w.heap.size=g at *
 have Hg:=hid hg
 clear hg
 have HER:=hid (show er9 ⟨bts m,sc,bts ex,bts wh,bts fr,pt,bts ba⟩=if (cntN (patP ⟨bts m,sc,bts ex,bts wh,bts fr,pt,bts ba⟩)).any (fun k=>decide (40 < k)) then 8 else 0 from rfl)
 have HP:=hid (fun W (h:Mw W)=>qLW m sc ex wh fr pt ba W h hs hs2)
 generalize er9 ⟨bts m,sc,bts ex,bts wh,bts fr,pt,bts ba⟩=E at *
 generalize patP ⟨bts m,sc,bts ex,bts wh,bts fr,pt,bts ba⟩=p at *
 have HW2:Hid (∀ W,Calls Tryz.prog 226 #[.agg (patN p)] W fun e w'=>e=.returned (.bool (!(cntN p).any (fun k=>decide (40 < k))))∧Below W.heap.size W w'):=hid (fun W=>within_c _ _ _ _ _ _ _ _ p W)
 generalize (cntN p).any (fun k=>decide (40 < k))=b at *
 generalize patN p=PV at *
 go_enter Tryz.func189,Tryz.ntmps189
 go_upto_region 1 with fail
 rw [HW.out,Hg.out]
 rcases b with _ | _
 all_goals
  go_wp2_with (first
   | (go_at_call 131; refine (HP.out _ HX.out.mw).mono ?_; rintro e wk ⟨rfl,hbx⟩; have HX:=hid (HX.out.below hbx); clear hbx)
   | (go_at_call 226; refine (HW2.out _).mono ?_; rintro e wk ⟨rfl,hbx⟩; have HX:=hid (HX.out.below hbx); clear hbx)
   | fail)
  go_ret
  rw [HER.out];exact ⟨rfl,Hg.out ▸ HX.out.b⟩
end Go.Proofs.YtnoeonaajefajaaGreatDoor
