import Derived.Deep.LoopGhost
import Derived.Deep.CutBlock
import Derived.Deep.DeepCutAuto
import Derived.Test.YtohfadegildnaaaQSJ
set_option linter.all false
set_option maxRecDepth 100000
set_option linter.unusedVariables false
namespace Go.Proofs.Ytohfadegildnaaa
open Go.RowKit
open Lib (hid)
def Mc11 (q:NF) (W:World) (v:Value) (Wc:World):Prop:=v=.pointer (some ⟨W.heap.size,0,none⟩)∧BX Wc W.heap.size (patN q) 26∧Below W.heap.size W Wc
set_option maxHeartbeats 16000000 in
theorem comp10 (hN:C11):C10:=by
 intro s w W g f E m d eb sm h lo hi hv hs HX HF hf ht HE hm hd hel heb hfh hnb HS HB hlo hhi HD
 refine Rs.lay ?_
 iterate 174 intro _
 change Code.wp _ _ _ _ _
 conv=>arg 2; dsimp only [qCY,qEN,qEB,qE2,qDO,qDF,qD0,qCV,qCM,qCD,qCU,sndS,Try.f6,Option.getD]
 iterate 2 go_step
 go_cut [] (FMid W ((halfZ true 0 (qA4 (elsL (toks (bts s)).1))).2.1=0))
 case first=>
  clear hN;have HZ0:=hid (fun (h:(halfZ true 0 (qA4 (elsL (toks (bts s)).1))).2.1≠0)=>(compZ_e ht hnb).trans (compE_A HS.out h));generalize (halfZ true 0 (qA4 (elsL (toks (bts s)).1)))=R at *;obtain ⟨ra,ie,ip⟩:=R;have y0:W.cell? ⟨f,0,none⟩=some (.int .i64 ie):=HF.out.c 0;have y1:W.cell? ⟨f,1,none⟩=some (.int .i64 ip):=HF.out.c 1
  by_cases he:ie=0
  · have gp:(ie != 0)=false:=by simpa using he
    have HEE:=hid he;clear he HZ0
    go_wp2_with (first | go_skip | fail)
    go_meet
    exact ⟨rfl,HEE.out⟩
  · have gp:(ie != 0)=true:=by simpa using he
    have HEE:=hid he;have HZ:=hid (HZ0.out he);clear he HZ0
    go_upto_region 29 with (first | go_skip | fail)
    have HXd:=hid HX.out.drew;have HR:=hid (HXd.out.ret patZ (.int .i64 ie) (.int .i64 ip));refine wp_region_held_drew (S:=(fun W9:World=>W9.cell? ⟨f,0,none⟩=some (.int .i64 ie)∧W9.cell? ⟨f,1,none⟩=some (.int .i64 ip))) (by kernel_rfl) (⟨y0,y1⟩) (fun hHeld=>?_);refine' qt 0 hHeld ?_
    try simp only [pk]
    refine' qCB 1 (v:=_) rfl (by kernel_rfl) (by kernel_rfl) (by kernel_rfl) (fun _ _ _ h=>h) rfl ?y17 hHeld ?r17
    case y17=>
     intro w hSw
     try dsimp only at hSw
     have k0:=hSw.1;have k1:=hSw.2;go_simp
     try with_reducible rfl
    try simp only [pk]
    refine qp 2 fun K hK=>?_;refine wp_store_row 26 _ _ rfl g patZ rfl rfl 26 patZ HXd.out.bp (qA3 _ _ _ _ _ {} _ _ _) rfl (qA8 {}) ?_;refine hK.out _ _ (⟨(cell_setRow_other _ _ _ _ (by show f≠g; omega)).trans hHeld.1,(cell_setRow_other _ _ _ _ (by show f≠g; omega)).trans hHeld.2⟩) (fun hHeld=>?_);clear hK K
    try simp only [Act.put]
    refine qp 3 fun K hK=>?_;refine wp_store_row 29 _ _ rfl (g+1) #[.int .i64 ie,.int .i64 ip] rfl rfl 29 _ (qAI HXd.out.bf (by omega)) (qA6 _ _) rfl (qA9 _ _) ?_;refine hK.out _ _ (⟨(cell_setRow_other _ _ _ _ (by show f≠g+1; omega)).trans hHeld.1,(cell_setRow_other _ _ _ _ (by show f≠g+1; omega)).trans hHeld.2⟩) (fun hHeld=>?_);clear hK K
    try simp only [Act.put]
    refine wpAnyH_done (by kernel_rfl) ?_ _;clear hHeld
    go_wp2
    exact bodyPost_ret (v:=.tuple #[.agg patZ,.agg #[.int .i64 ie,.int .i64 ip]]) (qAE Try.results6 _ _ g _ _ (0,0) _ rfl HR.out.1 Try.underlying26 rfl (qA3 _ _ _ _ _ {} _ _ _) (g+1) _ _ (0,0) _ rfl HR.out.2.1 Try.underlying29 rfl (qA6 _ _)) rfl (qBF.fault HZ.out HEE.out HR.out.2.2)
 case rest=>
 obtain ⟨rfl,hR⟩:=hcut
 obtain ⟨X1,n1,c1,X2,n2,c2,rfl,k1,k2⟩:=HD.out hR
 go_step
 refine wp_mono (c:=qDG) (hN s w wc g _ _ f E m d eb sm h lo hi X1 n1 c1 X2 n2 c2 hs HX HF hf ht HE hm hd hel heb hfh hnb HS HB hlo hhi hR (hid k1) (hid k2) _ ⟨rfl,rfl,rfl,rfl,rfl,rfl,rfl⟩) ?_
 intro e a w' h
 go_step
 exact h
set_option maxHeartbeats 16000000 in
theorem comp11 (hN:C12):C11:=by
 intro s w W g fx fy f E m d eb sm h lo hi X1 n1 c1 X2 n2 c2 hs HX HF hf ht HE hm hd hel heb hfh hnb HS HB hlo hhi hR HI1 HI2
 refine Rs.lay ?_
 iterate 174 intro _
 change Code.wp _ _ _ _ _
 conv=>arg 2; dsimp only [qDG,qCY,qEN,qEB,qE2,qDO,qDF,qD0,qCV,qCM,qCD,qCU,sndS,Try.f6,Option.getD]
 iterate 2 go_step
 go_cut [13] (Mc11 (halfZ true 0 (qA4 (elsL (toks (bts s)).1))).1.num W)
 case first=>
  clear hN;generalize (halfZ true 0 (qA4 (elsL (toks (bts s)).1))).1.num=q at *;have hrg:W.rangeAt h 2 (patN q).toList:=fun j v hv=>(HB.out.c (2+j)).trans (dhV_mid _ _ q _ _ _ j v hv)
  have hsz:(Try.prog.info? 26).map (·.size)=some (patN q).size:=qA3 ..;have hcs:=qA8 q;have hzs:patZ.size=(patN q).size:=rfl;have hll:(Try.prog.info? 26).map (·.size)=some (patN q).toList.length:=by rw [Array.length_toList]; exact hsz
  have hta:(patN q).toList.toArray=patN q:=Array.toArray_toList;generalize hPV:patN q=PV at *;have HPV:=hid hPV;generalize hPL:PV.toList=PL at *;clear hPV hPL HB
  go_wp2_with (first
   | go_skip
   | (refine wpList_load_mid rfl 26 _ rfl h 2 rfl PL _ hrg Try.underlying26 rfl hll ?_; rw [hta])
   | (refine wpList_store_row rfl 26 _ _ rfl W.heap.size PV rfl rfl 26 patZ (BX.new W patZ 26) hsz hzs hcs ?_)
   | fail)
  go_meet
  exact ⟨rfl,HPV.out ▸ setRow_heap _ _ _ _ _ _ (BX.new W patZ 26),((Below.refl _ _).alloc (Nat.le_refl _) _).setRow (Nat.le_refl _) _⟩
 case rest=>
 obtain ⟨rfl,hbp,hbc⟩:=hcut
 go_step
 refine wp_mono (c:=qDU) (hN s w wc g fx fy f E m d eb sm h lo hi X1 n1 c1 X2 n2 c2 W.heap.size hs (hid (HX.out.below hbc)) (hid (HF.out.below hbc HF.out.lt)) hf ht (hid (HE.out.below hbc)) hm hd hel heb hfh hnb HS (hid (HB.out.below hbc HB.out.lt)) hlo hhi hR (hid (HI1.out.below hbc (by have:=HI1.out.hi_; omega))) (hid (HI2.out.below hbc (by have:=HI2.out.hi_; omega))) (hid hbp) HB.out.lt _ ⟨rfl,rfl,rfl,rfl,rfl,rfl,rfl,rfl⟩) ?_
 intro e a w' h
 go_step
 exact h
def Mc14 (p:Nat) (is:List Itm) (f:Value→Array Value) (W Wc:World):Prop:=∃ X3 n3 c3,BX Wc p (f (.slice X3 n3 c3)) 26∧Below p W Wc∧Btw Wc (p+1) Wc.heap.size X3 n3 c3 is
set_option maxHeartbeats 16000000 in
theorem comp12 (hN:C13):C12:=by
 intro s w W g fx fy f E m d eb sm h lo hi X1 n1 c1 X2 n2 c2 p hs HX HF hf ht HE hm hd hel heb hfh hnb HS HB hlo hhi hR HI1 HI2 HP hp
 refine Rs.lay ?_
 iterate 173 intro _
 change Code.wp _ _ _ _ _
 conv=>arg 2; dsimp only [qDU,qDG,qCY,qEN,qEB,qE2,qDO,qDF,qD0,qCV,qCM,qCD,qCU,sndS,Try.f6,Option.getD]
 iterate 2 go_step
 go_cut [] (Mcp p (patV (.slice X1 n1 c1) (.slice X2 n2 c2) (.bool false) (.slice none 0 0) (.slice none 0 0) (halfZ true 0 (qA4 (elsL (toks (bts s)).1))).1.num (.int .i64 (halfZ true 0 (qA4 (elsL (toks (bts s)).1))).1.at_) (.int .i32 (halfZ true 0 (qA4 (elsL (toks (bts s)).1))).1.pad) (.int .i64 0)) W)
 case first=>
  clear hN;generalize (halfZ true 0 (qA4 (elsL (toks (bts s)).1))).1.num=q at *;generalize (halfZ true 0 (qA4 (elsL (toks (bts s)).1))).1.at_=at_ at *;generalize (halfZ true 0 (qA4 (elsL (toks (bts s)).1))).1.pad=pad at *;have y0:W.cell? ⟨h,0,none⟩=some (.slice X1 n1 c1):=HB.out.c 0;have y1:W.cell? ⟨h,1,none⟩=some (.slice X2 n2 c2):=HB.out.c 1;have y2:W.cell? ⟨h,22,none⟩=some (.int .i64 at_):=HB.out.c 22;have y3:W.cell? ⟨h,23,none⟩=some (.int .i32 pad):=HB.out.c 23;have x0:W.cell? ⟨p,0,none⟩=some (.slice none 0 0):=HP.out.c 0;have x1:W.cell? ⟨p,1,none⟩=some (.slice none 0 0):=HP.out.c 1;have x2:W.cell? ⟨p,17,none⟩=some (.int .i64 0):=HP.out.c 17;have x3:W.cell? ⟨p,18,none⟩=some (.int .i32 0):=HP.out.c 18;have f0:=HP.out.fr 0;have f1:=HP.out.fr 1;have f2:=HP.out.fr 17;have f3:=HP.out.fr 18;have HPq:=hid HP.out
  go_region
  go_wp2_with (first | go_skip | fail)
  go_meet
  refine ⟨pv_mid HPq.out,(((((Below.refl p W).setCell (p:=⟨p,0,none⟩) (Nat.le_refl p) _).setCell (p:=⟨p,1,none⟩) (Nat.le_refl p) _).setCell (p:=⟨p,17,none⟩) (Nat.le_refl p) _).setCell (p:=⟨p,18,none⟩) (Nat.le_refl p) _).drew,fun k hk=>(heap_setCell_other _ ⟨p,18,none⟩ k _ hk).trans ((heap_setCell_other _ ⟨p,17,none⟩ k _ hk).trans ((heap_setCell_other _ ⟨p,1,none⟩ k _ hk).trans (heap_setCell_other W ⟨p,0,none⟩ k _ hk)))⟩
 case rest=>
 obtain ⟨hbp,hbb,hoth⟩:=hcut
 go_step
 refine wp_mono (c:=qEC) (hN s w wc g fx fy f E m d eb sm h lo hi X1 n1 c1 X2 n2 c2 p hs (hid (HX.out.keep (hbb.mono (by omega)))) (hid (HF.out.below hbb (by omega))) hf ht (hid (HE.out.belowB (fun ad e=>Nat.lt_of_lt_of_le (hel ad e).2 (show eb≤p by omega)) hbb)) hm hd hel heb hfh hnb HS (hid (HB.out.below hbb hp)) hlo hhi hR (hid (HI1.out.below hbb (by omega))) (hid (HI2.out.below hbb (by omega))) (hid hbp) hp _ ⟨rfl,rfl,rfl,rfl,rfl,rfl,rfl,rfl⟩) ?_
 intro e a w' h
 go_step
 exact h
set_option maxHeartbeats 16000000 in
theorem comp13 (hN:C14):C13:=by
 intro s w W g fx fy f E m d eb sm h lo hi X1 n1 c1 X2 n2 c2 p hs HX HF hf ht HE hm hd hel heb hfh hnb HS HB hlo hhi hR HI1 HI2 HP hp
 refine Rs.lay ?_
 iterate 173 intro _
 change Code.wp _ _ _ _ _
 conv=>arg 2; dsimp only [qEC,qDU,qDG,qCY,qEN,qEB,qE2,qDO,qDF,qD0,qCV,qCM,qCD,qCU,sndS,Try.f6,Option.getD]
 iterate 2 go_step
 go_cut [] (Mcp p (patV (.slice X1 n1 c1) (.slice X2 n2 c2) (.bool false) (.slice none 0 0) (.slice none 0 0) (halfZ true 0 (qA4 (elsL (toks (bts s)).1))).1.num (.int .i64 (halfZ true 0 (qA4 (elsL (toks (bts s)).1))).1.at_) (.int .i32 (halfZ true 0 (qA4 (elsL (toks (bts s)).1))).1.pad) (.int .i64 (((halfZ true 0 (qA4 (elsL (toks (bts s)).1))).1.wid:Nat):Int))) W)
 case first=>
  clear hN;have hat:=(halfZ_at true 0 (qA4 (elsL (toks (bts s)).1))).1;have hlg:=(halfZ_at true 0 (qA4 (elsL (toks (bts s)).1))).2;have hfl:(qA4 (elsL (toks (bts s)).1)).length≤m:=by
   have e:=congrArg List.length (show (elsL (toks (bts s)).1)=qA4 (elsL (toks (bts s)).1)++qBE (elsL (toks (bts s)).1) from List.takeWhile_append_dropWhile.symm);rw [List.length_append] at e;have:=HE.out.len;omega
  have hn1:n1=(halfZ true 0 (qA4 (elsL (toks (bts s)).1))).1.pre.length:=by have:=HI1.out.len; rw [qBU] at this; omega
  have hn2:n2=(halfZ true 0 (qA4 (elsL (toks (bts s)).1))).1.suf.length:=by have:=HI2.out.len; rw [qBU] at this; omega
  have hl4:=qG5 true 0 (qA4 (elsL (toks (bts s)).1));generalize (halfZ true 0 (qA4 (elsL (toks (bts s)).1)))=R at *;obtain ⟨ra,re,rp⟩:=R;dsimp only at *;have HWD:=hid (show ra.wid=if ra.at_≠0 then n1+ra.long+n2 else 0 by rw [hn1,hn2]; rfl);have hn1':n1≤40:=by omega
  have hn2':n2≤40:=by omega
  have hlg':ra.long≤400:=by omega
  clear hn1 hn2 hl4 HI1 HI2 hlg hfl;generalize ra.wid=wd at *;generalize ra.num=q at *;generalize ra.at_=at_ at *;generalize ra.pad=pad at *;generalize ra.long=lg at *
  by_cases h0:0 < at_
  · have hwd:wd=n1+lg+n2:=by rw [HWD.out,if_pos (by omega)]
    subst hwd;have g0:decide (0 < at_)=true:=decide_eq_true h0;have y0:W.cell? ⟨h,0,none⟩=some (.slice X1 n1 c1):=HB.out.c 0;have y1:W.cell? ⟨h,1,none⟩=some (.slice X2 n2 c2):=HB.out.c 1;have y2:W.cell? ⟨h,22,none⟩=some (.int .i64 at_):=HB.out.c 22;have y3:W.cell? ⟨h,24,none⟩=some (.int .i64 (lg:Int)):=HB.out.c 24;have x0:W.cell? ⟨p,19,none⟩=some (.int .i64 0):=HP.out.c 19;have f0:=HP.out.fr 19;clear h0 HWD
    go_wp2_with (first | go_skip | fail)
    go_meet
    have e3:((n1:Int)+(n2:Int)+(lg:Int))=((n1+lg+n2:Nat):Int):=by omega
    have hb:=pv_b19 HP.out (Value.int .i64 ((n1:Int)+(n2:Int)+(lg:Int)));rw [e3] at hb;rw [e3];exact ⟨hb,(Below.refl p W).setCell (p:=⟨p,19,none⟩) (Nat.le_refl p) _,fun k hk=>heap_setCell_other W ⟨p,19,none⟩ k _ hk⟩
  · have hwd:wd=0:=by rw [HWD.out,if_neg (by omega)]
    subst hwd;have g0:decide (0 < at_)=false:=decide_eq_false h0;have y2:W.cell? ⟨h,22,none⟩=some (.int .i64 at_):=HB.out.c 22;clear h0 HWD
    go_wp2_with (first | go_skip | fail)
    go_meet
    exact ⟨HP.out,Below.refl _ _,fun k _=>rfl⟩
 case rest=>
 obtain ⟨hbp,hbb,hoth⟩:=hcut
 go_step
 refine wp_mono (c:=qET) (hN s w wc g fx fy f E m d eb sm h lo hi X1 n1 c1 X2 n2 c2 p hs (hid (HX.out.keep (hbb.mono (by omega)))) (hid (HF.out.below hbb (by omega))) hf ht (hid (HE.out.belowB (fun ad e=>Nat.lt_of_lt_of_le (hel ad e).2 (show eb≤p by omega)) hbb)) hm hd hel heb hfh hnb HS (hid (HB.out.below hbb hp)) hlo hhi hR (hid (HI1.out.below hbb (by omega))) (hid (HI2.out.below hbb (by omega))) (hid hbp) hp _ ⟨rfl,rfl,rfl,rfl,rfl,rfl,rfl,rfl⟩) ?_
 intro e a w' h
 go_step
 exact h
set_option maxHeartbeats 16000000 in
theorem comp14 (hN:C15):C14:=by
 intro s w W g fx fy f E m d eb sm h lo hi X1 n1 c1 X2 n2 c2 p hs HX HF hf ht HE hm hd hel heb hfh hnb HS HB hlo hhi hR HI1 HI2 HP hp
 refine Rs.lay ?_
 iterate 173 intro _
 change Code.wp _ _ _ _ _
 conv=>arg 2; dsimp only [qET,qEC,qDU,qDG,qCY,qEN,qEB,qE2,qDO,qDF,qD0,qCV,qCM,qCD,qCU,sndS,Try.f6,Option.getD]
 iterate 2 go_step
 go_cut [] (Mc14 p ((2,0) :: (halfZ true 0 (qA4 (elsL (toks (bts s)).1))).1.pre) (fun x3=>patV (.slice X1 n1 c1) (.slice X2 n2 c2) (.bool false) x3 (.slice none 0 0) (halfZ true 0 (qA4 (elsL (toks (bts s)).1))).1.num (.int .i64 (halfZ true 0 (qA4 (elsL (toks (bts s)).1))).1.at_) (.int .i32 (halfZ true 0 (qA4 (elsL (toks (bts s)).1))).1.pad) (.int .i64 (((halfZ true 0 (qA4 (elsL (toks (bts s)).1))).1.wid:Nat):Int))) W)
 case first=>
  clear hN;have hn1:n1=(halfZ true 0 (qA4 (elsL (toks (bts s)).1))).1.pre.length:=by have:=HI1.out.len; rw [qBU] at this; omega
  have hl4:=(qG5 true 0 (qA4 (elsL (toks (bts s)).1))).1;have hn1':n1≤40:=by omega
  have hpW:=HP.out.lt;generalize (halfZ true 0 (qA4 (elsL (toks (bts s)).1)))=R at *;obtain ⟨ra,re,rp⟩:=R;dsimp only at *;clear hn1 hl4;have HL:Hid ((W.alloc (.cells #[.int .i64 2,.int .i32 0] 57)).ownsRow W.heap.size 57 2 (.slice (some ⟨W.heap.size,0,none⟩) 1 1) 1 (itsV [(2,0)])):=hid (World.ownsRow_lit W _ 1 (Nat.le_refl _) (by unfold maxLen; omega) rfl);have HBa:=hid (HI1.out.below (qB3 W (.cells #[.int .i64 2,.int .i32 0] 57)) (by have:=HI1.out.hi_; omega));have z0:(W.alloc (.cells #[.int .i64 2,.int .i32 0] 57)).cell? ⟨h,0,none⟩=some (.slice X1 n1 c1):=(HB.out.alloc _).c 0
  go_wp2_with (at_builtin; go_must (refine qFY rfl (.tmp 131) (.tmp 133) _ rfl Try.underlying24 W.heap.size (.slice (some ⟨W.heap.size,0,none⟩) 1 1) 1 [(2,0)] rfl HL.out X1 n1 c1 ra.pre rfl HBa.out (by omega) (qB3 _ _) (by simp) ?_))
  intro v' w6 p1 p2;obtain ⟨A7,c7,rfl⟩:=qAN p1.out;have HP6:=hid (HP.out.below p2.out hpW);have x3:w6.cell? ⟨p,3,none⟩=some (.slice none 0 0):=HP6.out.c 3;have r3:=HP6.out.fr 3;clear z0 HL HBa
  go_wp2_with (first | go_skip | fail)
  go_meet
  have hs6:=p2.out.size;refine ⟨A7,1+n1,c7,pv_b3 HP6.out _,(p2.out.mono (Nat.le_of_lt hpW)).setCell (p:=⟨p,3,none⟩) (Nat.le_refl p) _,?_⟩;have hown:OwnI w6 W.heap.size A7 (1+n1) c7 ((2,0) :: ra.pre):=⟨p1.out,by omega,fun i hi=>by
   rcases List.mem_cons.1 hi with rfl | hi
   · exact ⟨by decide,by decide⟩
   · exact HI1.out.ri i hi⟩
  have hk:=(Btw.of_ownI hown (show p+1≤W.heap.size by omega)).set (f:=p) (.inl (Nat.lt_succ_self p)) 3 (.slice A7 (1+n1) c7);exact hk.mono (Nat.le_refl _) (by simp) (Nat.le_refl _)
 case rest=>
 obtain ⟨X3,n3,c3,hbp,hbb,hi3⟩:=hcut
 go_step
 refine wp_mono (c:=qFT) (hN s w wc g fx fy f E m d eb sm h lo hi X1 n1 c1 X2 n2 c2 p X3 n3 c3 wc.heap.size hs (hid (HX.out.keep (hbb.mono (by omega)))) (hid (HF.out.below hbb (by omega))) hf ht (hid (HE.out.belowB (fun ad e=>Nat.lt_of_lt_of_le (hel ad e).2 (show eb≤p by omega)) hbb)) hm hd hel heb hfh hnb HS (hid (HB.out.below hbb hp)) hlo hhi hR (hid (HI1.out.below hbb (by omega))) (hid (HI2.out.below hbb (by omega))) (hid hbp) hp (hid hi3) _ ⟨rfl,rfl,rfl,rfl,rfl,rfl,rfl,rfl⟩) ?_
 intro e a w' h
 go_step
 exact h
set_option maxHeartbeats 16000000 in
theorem comp15 (hN:C16):C15:=by
 intro s w W g fx fy f E m d eb sm h lo hi X1 n1 c1 X2 n2 c2 p X3 n3 c3 hi3 hs HX HF hf ht HE hm hd hel heb hfh hnb HS HB hlo hhi hR HI1 HI2 HP hp HI3
 refine Rs.lay ?_
 iterate 173 intro _
 change Code.wp _ _ _ _ _
 conv=>arg 2; dsimp only [qFT,qET,qEC,qDU,qDG,qCY,qEN,qEB,qE2,qDO,qDF,qD0,qCV,qCM,qCD,qCU,sndS,Try.f6,Option.getD]
 iterate 2 go_step
 go_cut [] (Mcp p (patV (.slice X1 n1 c1) (.slice X2 n2 c2) (.bool false) (.slice X3 n3 c3) (.slice X2 n2 c2) (halfZ true 0 (qA4 (elsL (toks (bts s)).1))).1.num (.int .i64 (halfZ true 0 (qA4 (elsL (toks (bts s)).1))).1.at_) (.int .i32 (halfZ true 0 (qA4 (elsL (toks (bts s)).1))).1.pad) (.int .i64 (((halfZ true 0 (qA4 (elsL (toks (bts s)).1))).1.wid:Nat):Int))) W)
 case first=>
  clear hN;have y1:W.cell? ⟨h,1,none⟩=some (.slice X2 n2 c2):=HB.out.c 1;have x4:W.cell? ⟨p,4,none⟩=some (.slice none 0 0):=HP.out.c 4;have f4:=HP.out.fr 4;generalize (halfZ true 0 (qA4 (elsL (toks (bts s)).1))).1=ra at *
  go_wp2_with (first | go_skip | fail)
  go_meet
  exact ⟨pv_b4 HP.out _,(Below.refl p W).setCell (p:=⟨p,4,none⟩) (Nat.le_refl p) _,fun k hk=>heap_setCell_other W ⟨p,4,none⟩ k _ hk⟩
 case rest=>
 obtain ⟨hbp,hbb,hoth⟩:=hcut
 go_step
 refine wp_mono (c:=qG6) (hN s w wc g fx fy f E m d eb sm h lo hi X1 n1 c1 X2 n2 c2 p X3 n3 c3 hi3 hs (hid (HX.out.keep (hbb.mono (by omega)))) (hid (HF.out.below hbb (by omega))) hf ht (hid (HE.out.belowB (fun ad e=>Nat.lt_of_lt_of_le (hel ad e).2 (show eb≤p by omega)) hbb)) hm hd hel heb hfh hnb HS (hid (HB.out.below hbb hp)) hlo hhi hR (hid (HI1.out.below hbb (by omega))) (hid (HI2.out.below hbb (by omega))) (hid hbp) hp (hid ((HI3.out.keep hbb.size (fun k h1 h2=>hoth k (by omega))))) _ ⟨rfl,rfl,rfl,rfl,rfl,rfl,rfl,rfl⟩) ?_
 intro e a w' h
 go_step
 exact h
theorem sl_el4 (ad:Addr) (n c j:Nat) (h0:j≤n) (hc:n≤c):∃ a',(∀ W,(Instr.slice 46 (.slice (some ad) n c) (some (.int .i64 (j:Int))) none none).run Try.prog W=.ok (.slice (some a') (n - j) (c - j)) W)∧(c=j∨a'=ad.add (j * 4)):=by
 refine ⟨if c=j then ad else ad.add (j * 4),fun W=>?_,?_⟩
 · rw [run_slice_l W _ (some ad) n c (by rw [Try.underlying46]; kernel_rfl) .i64 (j:Int) (by omega) (by omega)]
   have e:(sizeOf (Try.prog.elem 46)).run Try.prog W=.ok 4 W:=by kernel_rfl
   rw [e]
   show Result.ok (sliced (some ad) (j:Int).toNat n c 4) W=_
   rw [Int.toNat_natCast];unfold sliced
   by_cases h:c=j
   · rw [if_pos h,if_pos h]
   · rw [if_neg h,if_neg h]; rfl
 · by_cases h:c=j
   · exact .inl h
   · rw [if_neg h]; exact .inr rfl
theorem Rls.dropR {w:World} {ad a':Addr} {n c:Nat} {ts:List El} (h:Rls w (some ad) n ts) {j:Nat} (hj:j≤n) (hc:n≤c) (ha:c=j∨a'=ad.add (j * 4)):Rls w (some a') (n - j) (ts.drop j):=by
 refine ⟨⟨by rw [qBY,List.length_drop,h.len],fun h0=>?_⟩,Nat.le_trans (Nat.sub_le _ _) h.2.1,fun t ht=>h.2.2 t (List.mem_of_mem_drop ht)⟩
 obtain ⟨ad',e,hb,hcl⟩:=h.1.2 (by omega)
 obtain rfl:=Option.some.inj e
 rcases ha with h' | rfl
 · omega
 · refine ⟨ad.add (j * 4),rfl,by rw [qA7]; exact hb,fun k u hu=>?_⟩
   have e2:elsR ts=elsR (ts.take j)++elsR (ts.drop j):=by rw [← qE0,List.take_append_drop]
   have hl:(elsR (ts.take j)).length=j * 4:=by rw [qBY,List.length_take,h.len]; omega
   rw [qDK];refine hcl (j * 4+k) u ?_;rw [e2,List.getElem?_append_right (by omega),hl,Nat.add_sub_cancel_left]; exact hu
section
variable {P:Program} {ops:Array Oper} {Q:Exit→Act→World→Prop} {md:Region.Mode} {S:World→Prop}
theorem qH0 (i j:Nat) {oi oj:Oper} {ri rj:List Oper} {fuel:Nat} {listed:Array Bool} {a:Act} {w:World} (hr:Region.ready md ops listed=[i,j]) (hi:ops.toList.drop i=oi :: ri) (hj:ops.toList.drop j=oj :: rj)
 (wi:Region.wanted oi (yielded ops a.tmps)=true) (wj:Region.wanted oj (yielded ops a.tmps)=true)
 (h1:∀ K':Act→World→Prop,Shut (∀ a w,S w→(S w→wpAnyH P md ops Q S fuel (listed.setIfInBounds i true) a w)→K' a w)→Oper.wp P oi a w K' Q)
 (h2:∀ K':Act→World→Prop,Shut (∀ a w,S w→(S w→wpAnyH P md ops Q S fuel (listed.setIfInBounds j true) a w)→K' a w)→Oper.wp P oj a w K' Q):wpAnyH P md ops Q S (fuel+1) listed a w:=
 wpAnyH_ready hr (by simp) (AllReadyH.cons (qCR hi) (fun K hK=>by rw [if_pos wi]; exact h1 K hK) (AllReadyH.cons (qCR hj) (fun K hK=>by rw [if_pos wj]; exact h2 K hK) AllReadyH.nil))
theorem step_at3 (i j k:Nat) {oi oj ok:Oper} {ri rj rk:List Oper} {fuel:Nat} {listed:Array Bool} {a:Act} {w:World} (hr:Region.ready md ops listed=[i,j,k]) (hi:ops.toList.drop i=oi :: ri) (hj:ops.toList.drop j=oj :: rj) (hk:ops.toList.drop k=ok :: rk)
 (wi:Region.wanted oi (yielded ops a.tmps)=true) (wj:Region.wanted oj (yielded ops a.tmps)=true) (wk:Region.wanted ok (yielded ops a.tmps)=true)
 (h1:∀ K':Act→World→Prop,Shut (∀ a w,S w→(S w→wpAnyH P md ops Q S fuel (listed.setIfInBounds i true) a w)→K' a w)→Oper.wp P oi a w K' Q)
 (h2:∀ K':Act→World→Prop,Shut (∀ a w,S w→(S w→wpAnyH P md ops Q S fuel (listed.setIfInBounds j true) a w)→K' a w)→Oper.wp P oj a w K' Q)
 (h3:∀ K':Act→World→Prop,Shut (∀ a w,S w→(S w→wpAnyH P md ops Q S fuel (listed.setIfInBounds k true) a w)→K' a w)→Oper.wp P ok a w K' Q):wpAnyH P md ops Q S (fuel+1) listed a w:=
 wpAnyH_ready hr (by simp) (AllReadyH.cons (qCR hi) (fun K hK=>by rw [if_pos wi]; exact h1 K hK) (AllReadyH.cons (qCR hj) (fun K hK=>by rw [if_pos wj]; exact h2 K hK) (AllReadyH.cons (qCR hk) (fun K hK=>by rw [if_pos wk]; exact h3 K hK) AllReadyH.nil)))
end
theorem HfB.below {lo hi B:Nat} {w w':World} {hv:Array Value} {H:Hf} (h:HfB lo hi w hv H) (hb:Below B w w') (hB:hi≤B):HfB lo hi w' hv H:=by
 obtain ⟨A1,n1,c1,A2,n2,c2,e,k1,k2⟩:=h
 exact ⟨A1,n1,c1,A2,n2,c2,e,k1.below hb hB,k2.below hb hB⟩
theorem HfB.row {lo hi f:Nat} {w:World} {hv:Array Value} {H:Hf} (h:HfB lo hi w hv H) (hf:f < lo∨hi≤f) (cs:Array Value):HfB lo hi (w.setRow f cs) hv H:=by
 obtain ⟨A1,n1,c1,A2,n2,c2,e,k1,k2⟩:=h
 exact ⟨A1,n1,c1,A2,n2,c2,e,k1.row hf cs,k2.row hf cs⟩
def Mc37 (R:Hf × Int × Int) (W:World) (v14 v15:Value) (Wc:World):Prop:=∃ b14 b15 lo hi hv,v14=.pointer (some ⟨b14,0,none⟩)∧v15=.pointer (some ⟨b15,0,none⟩)∧W.heap.size≤b14∧W.heap.size≤b15∧W.heap.size≤lo∧BX Wc b14 hv 53∧BX Wc b15 #[.int .i64 R.2.1,.int .i64 R.2.2] 29∧Below W.heap.size W Wc∧(R.2.1=0→HfB lo hi Wc hv R.1)
theorem Mc37.of {R:Hf × Int × Int} {W V:World} {b14 b15 lo hi:Nat} {hv:Array Value} (h1:W.heap.size≤b14) (h2:W.heap.size≤b15) (h3:W.heap.size≤lo) (hne:b14≠b15) (f1:b14 < lo∨hi≤b14) (f2:b15 < lo∨hi≤b15) (hb1:BX V b14 dhZ 53) (hb2:BX V b15 #[.int .i64 0,.int .i64 0] 29) (hb:Below W.heap.size W V) (hH:R.2.1=0→HfB lo hi V hv R.1) :
 Mc37 R W (.pointer (some ⟨b14,0,none⟩)) (.pointer (some ⟨b15,0,none⟩)) ((V.setRow b14 hv).setRow b15 #[.int .i64 R.2.1,.int .i64 R.2.2]):=
 ⟨b14,b15,lo,hi,hv,rfl,rfl,h1,h2,h3,qAI (setRow_heap _ _ _ _ _ _ hb1) hne,setRow_heap _ _ _ _ _ _ (qAI hb2 (Ne.symm hne)),(hb.setRow h1 _).setRow h2 _,fun h0=>((hH h0).row f1 _).row f2 _⟩
def Mc16 (g p:Nat) (s:ByteArray) (W Wc:World):Prop:=∃ PV P,BX Wc p PV 26∧PtB g Wc PV P∧compZ (bts s)=P.mix∧Below (g+2) W Wc
set_option maxHeartbeats 16000000 in
theorem comp16 (hN:C17):C16:=by
 intro s w W g fx fy f E m d eb sm h lo hi X1 n1 c1 X2 n2 c2 p X3 n3 c3 hi3 hs HX HF hf ht HE hm hd hel heb hfh hnb HS HB hlo hhi hR HI1 HI2 HP hp HI3
 refine Rs.lay ?_
 iterate 173 intro _
 change Code.wp _ _ _ _ _
 conv=>arg 2; dsimp only [qG6,qFT,qET,qEC,qDU,qDG,qCY,qEN,qEB,qE2,qDO,qDF,qD0,qCV,qCM,qCD,qCU,sndS,Try.f6,Option.getD]
 iterate 2 go_step
 go_cut [] (Mc16 g p s W)
 case first=>
  clear hN;have HNL:=hid HE.out.len;have hgp:g+1 < p:=by omega
  have HPL:Hid (∀ e ∈ (elsL (toks (bts s)).1),0≤e.1.2.2∧e.1.2.2≤1000000000):=hid fun e he=>by
   obtain ⟨⟨t,ht',e1⟩,-⟩:=elsL_mem _ e he;have:=toks_at (qAF s) t ht';rw [qA0] at this;rw [e1]; omega
  have HZE:=hid (compZ_e ht hnb);generalize (elsL (toks (bts s)).1)=es at *
  rcases HS.out with ⟨h1,rfl⟩ | ⟨e,r,h1,h2,rfl⟩
  · have HC:=hid (HZE.out.trans (compE_one' h1 hR))
    clear h1 HZE HPL
    go_wp2_with (first | go_skip | fail)
    go_meet
    exact ⟨_,one16 (halfZ true 0 (qA4 es)).1,HP.out,⟨X1,n1,c1,X2,n2,c2,X3,n3,c3,X2,n2,c2,hi,hi,hi3,hi,rfl,HI1.out.mono (lo':=g+2) (by omega) (Nat.le_refl _) HI1.out.hi_,HI2.out.mono (lo':=g+2) (by omega) (Nat.le_refl _) HI2.out.hi_,HI3.out.mono (lo':=g+2) (by omega) (Nat.le_refl _) HI3.out.hi_,HI2.out.mono (lo':=g+2) (by omega) (Nat.le_refl _) HI2.out.hi_⟩,HC.out,Below.refl _ _⟩
  · have HC1:=hid (fun hB=>HZE.out.trans (compE_B h1 h2 hR hB))
    have HC2:=hid (fun hB=>HZE.out.trans (compE_two' h1 h2 hR hB));have hsplit:es=qA4 es++e :: r:=by rw [← h1]; exact List.takeWhile_append_dropWhile.symm
    have hLm:(qA4 es).length < m:=by
     have:=congrArg List.length hsplit;rw [List.length_append,List.length_cons] at this;have:=HNL.out;omega
    have hdr:es.drop ((qA4 es).length+1)=r:=by
     have e2:((qA4 es++[e])++r).drop (qA4 es++[e]).length=r:=List.drop_left' rfl;rw [List.length_append,List.append_assoc] at e2;rw [show [e]++r=e :: r from rfl,← hsplit] at e2;exact e2
    have hel4:el4 es (qA4 es).length=e:=el4_app hsplit;have hpe:=HPL.out e (by rw [hsplit]; simp);obtain ⟨ad,rfl,-⟩:∃ ad,E=some ad∧True:=by
     obtain ⟨ad,e',-⟩:=HE.out.at_ hLm;exact ⟨ad,e',trivial⟩
    obtain ⟨ad',hadA,hab,d0,d1,d2,d3,-⟩:=HE.out.at_ hLm
    cases hadA
    rw [hel4] at d2;generalize (halfZ true 0 (qA4 es))=R1 at *;generalize (qA4 es).length=L at *;obtain ⟨a',HSL,ha'⟩:=sl_el4 ad m d (L+1) (by omega) hd;rw [show ((L+1:Nat):Int)=(L:Int)+1 by omega] at HSL;have HRR:=hid (show Rls W (some a') (m - (L+1)) r from hdr ▸ HE.out.dropR (by omega) hd ha');have HCH:=hid (fun W' (hb:Below W.heap.size W W')=>(qHO r (some a') (m - (L+1)) (d - (L+1)) (e.1.2.2+1) false W' (HRR.out.below hb) (by omega)).mono (fun e w' h=>qAX.sz h));generalize halfZ false (e.1.2.2+1) r=R2 at *;obtain ⟨rb,re,rp⟩:=R2;generalize e.1.2.2=ea at *;clear hsplit hdr hel4 h1 h2 HZE HPL d0 d1 d3 HRR ha';have gsm:decide ((0:Int)≤(L:Int))=true:=decide_eq_true (by omega);have gw1:IntKind.i64.wrap ((L:Int)+1)=(L:Int)+1:=by rw [IntKind.wrap_i64]; omega
    have gw2:IntKind.i64.wrap (ea+1)=ea+1:=by rw [IntKind.wrap_i64]; omega
    have hpW:=HP.out.lt;have D2:=hid d2;clear d2
    go_upto_region 37 with (first | go_skip | fail)
    go_cut [14,15] (Mc37 (rb,re,rp) W)
    case first=>
     refine wp_region_held_drew (S:=(fun W9:World=>Hid (Below W.heap.size W W9))) (by kernel_rfl) (hid ((Below.refl _ _).drew)) (fun hHeld=>?_);refine' qt 0 hHeld ?_
     try simp only [pk]
     refine' qt 1 hHeld ?_
     try simp only [pk]
     refine' qt 2 hHeld ?_
     try simp only [pk]
     refine' qt 3 hHeld ?_
     try simp only [pk]
     refine' qt 4 hHeld ?_
     try simp only [pk]
     refine' qt 5 hHeld ?_
     try simp only [pk]
     refine' qt 6 hHeld ?_
     try simp only [pk]
     refine' qt 7 hHeld ?_
     try simp only [pk]
     refine' qt 8 hHeld ?_
     try simp only [pk]
     refine' qCB 9 (v:=_) rfl (by kernel_rfl) (by kernel_rfl) (by kernel_rfl) (fun _ _ _ h=>h) rfl ?y27 hHeld ?r27
     case y27=>
      intro w hSw
      try dsimp only at hSw
      have k9:=(hSw.out.cell (p:=⟨(ad.add (L * 4)).block,(ad.add (L * 4)).off+2,none⟩) (by show (ad.add (L * 4)).block < _; rw [qA7]; exact hab)).trans D2.out;go_simp
      try with_reducible rfl
     try simp only [pk]
     refine' qt 10 hHeld ?_
     try simp only [pk]
     generalize W.drew=V0 at *;refine step_at3 11 15 16 (by kernel_rfl) rfl rfl rfl rfl rfl rfl (fun K hK=>?_) (fun K hK=>?_) (fun K hK=>?_)
     · go_simp
       refine (HCH.out _ hHeld.out).mono ?_;rintro rr V1 ⟨hv,rfl,hsz,hcs,hzs,hD,hb1⟩;have HBV:=hid (hHeld.out.trans (hb1.mono hHeld.out.size));have hloW:W.heap.size≤V0.heap.size:=hHeld.out.size;have HH:Hid (re=0→HfB V0.heap.size V1.heap.size V1 hv rb):=hid hD;have hcur:V1.heap.size≤V1.heap.size:=Nat.le_refl _;clear hD HCH hHeld
       go_wp2_with fail
       refine hK.out _ _ HBV (fun hHeld=>?_);clear hK K
       try simp only [pk]
       refine' qt 12 hHeld ?_
       try simp only [pk]
       refine' qt 13 hHeld ?_
       try simp only [pk]
       refine' qt 14 hHeld ?_
       try simp only [pk]
       refine qH0 15 16 (by kernel_rfl) rfl rfl rfl rfl (fun K hK=>?_) (fun K hK=>?_)
       · have h14:W.heap.size≤V1.heap.size:=hHeld.out.size
         have H14:=hid (BX.new V1 dhZ 53);have HBV:=hid (hHeld.out.alloc hHeld.out.size (.cells dhZ 53));have hal:V1.heap.size < (V1.alloc (.cells dhZ 53)).heap.size:=by simp
         have HH:=hid (fun h0=>(HH.out h0).below ((Below.refl V1.heap.size V1).alloc (Nat.le_refl _) (.cells dhZ 53)) hcur);have far14:V1.heap.size < V0.heap.size∨V1.heap.size≤V1.heap.size:=.inr hcur;have hcur:V1.heap.size≤(V1.alloc (.cells dhZ 53)).heap.size:=Nat.le_trans hcur (Nat.le_of_lt hal)
         go_wp2_with fail
         change K _ (V1.alloc (.cells dhZ 53))
         generalize (V1.alloc (.cells dhZ 53))=V2 at *;refine hK.out _ _ HBV (fun hHeld=>?_);clear hK K
         try simp only [pk]
         refine qp 16 fun K hK=>?_;have h15:W.heap.size≤V2.heap.size:=hHeld.out.size;have H15:=hid (BX.new V2 #[.int .i64 0,.int .i64 0] 29);have HBV:=hid (hHeld.out.alloc hHeld.out.size (.cells #[.int .i64 0,.int .i64 0] 29));have hal:V2.heap.size < (V2.alloc (.cells #[.int .i64 0,.int .i64 0] 29)).heap.size:=by simp
         have hlt:=H14.out.lt;have hne15:V2.heap.size≠V1.heap.size:=by omega
         have H14:=hid (H14.out.alloc (.cells #[.int .i64 0,.int .i64 0] 29));have HH:=hid (fun h0=>(HH.out h0).below ((Below.refl V2.heap.size V2).alloc (Nat.le_refl _) (.cells #[.int .i64 0,.int .i64 0] 29)) hcur);have far15:V2.heap.size < V0.heap.size∨V1.heap.size≤V2.heap.size:=.inr hcur;have hcur:V1.heap.size≤(V2.alloc (.cells #[.int .i64 0,.int .i64 0] 29)).heap.size:=Nat.le_trans hcur (Nat.le_of_lt hal)
         go_wp2_with fail
         change K _ (V2.alloc (.cells #[.int .i64 0,.int .i64 0] 29))
         generalize (V2.alloc (.cells #[.int .i64 0,.int .i64 0] 29))=V3 at *;refine hK.out _ _ HBV (fun hHeld=>?_);clear hK K
         try simp only [pk]
         refine qp 17 fun K hK=>?_;refine wp_store_row 53 _ _ rfl (V1.heap.size) hv rfl rfl 53 dhZ H14.out hsz hzs hcs ?_;refine hK.out _ _ (hid (hHeld.out.setRow h14 _)) (fun hHeld=>?_);clear hK K
         try simp only [pk]
         refine qp 18 fun K hK=>?_;refine wp_store_row 29 _ _ rfl (V2.heap.size) #[.int .i64 re,.int .i64 rp] rfl rfl 29 _ (qAI H15.out hne15) (qA6 _ _) rfl (qA9 _ _) ?_;refine hK.out _ _ (hid (hHeld.out.setRow h15 _)) (fun hHeld=>?_);clear hK K
         try simp only [pk]
         refine wpAnyH_done (by kernel_rfl) ?_ _;clear hHeld
         go_wp2
         go_meet
         exact Mc37.of (R:=(rb,re,rp)) h14 h15 hloW (Ne.symm hne15) far14 far15 H14.out H15.out HBV.out HH.out
       · have h15:W.heap.size≤V1.heap.size:=hHeld.out.size
         have H15:=hid (BX.new V1 #[.int .i64 0,.int .i64 0] 29);have HBV:=hid (hHeld.out.alloc hHeld.out.size (.cells #[.int .i64 0,.int .i64 0] 29));have hal:V1.heap.size < (V1.alloc (.cells #[.int .i64 0,.int .i64 0] 29)).heap.size:=by simp
         have HH:=hid (fun h0=>(HH.out h0).below ((Below.refl V1.heap.size V1).alloc (Nat.le_refl _) (.cells #[.int .i64 0,.int .i64 0] 29)) hcur);have far15:V1.heap.size < V0.heap.size∨V1.heap.size≤V1.heap.size:=.inr hcur;have hcur:V1.heap.size≤(V1.alloc (.cells #[.int .i64 0,.int .i64 0] 29)).heap.size:=Nat.le_trans hcur (Nat.le_of_lt hal)
         go_wp2_with fail
         change K _ (V1.alloc (.cells #[.int .i64 0,.int .i64 0] 29))
         generalize (V1.alloc (.cells #[.int .i64 0,.int .i64 0] 29))=V2 at *;refine hK.out _ _ HBV (fun hHeld=>?_);clear hK K
         try simp only [pk]
         refine qp 15 fun K hK=>?_;have h14:W.heap.size≤V2.heap.size:=hHeld.out.size;have H14:=hid (BX.new V2 dhZ 53);have HBV:=hid (hHeld.out.alloc hHeld.out.size (.cells dhZ 53));have hal:V2.heap.size < (V2.alloc (.cells dhZ 53)).heap.size:=by simp
         have hlt:=H15.out.lt;have hne15:V1.heap.size≠V2.heap.size:=by omega
         have H15:=hid (H15.out.alloc (.cells dhZ 53));have HH:=hid (fun h0=>(HH.out h0).below ((Below.refl V2.heap.size V2).alloc (Nat.le_refl _) (.cells dhZ 53)) hcur);have far14:V2.heap.size < V0.heap.size∨V1.heap.size≤V2.heap.size:=.inr hcur;have hcur:V1.heap.size≤(V2.alloc (.cells dhZ 53)).heap.size:=Nat.le_trans hcur (Nat.le_of_lt hal)
         go_wp2_with fail
         change K _ (V2.alloc (.cells dhZ 53))
         generalize (V2.alloc (.cells dhZ 53))=V3 at *;refine hK.out _ _ HBV (fun hHeld=>?_);clear hK K
         try simp only [pk]
         refine qp 17 fun K hK=>?_;refine wp_store_row 53 _ _ rfl (V2.heap.size) hv rfl rfl 53 dhZ H14.out hsz hzs hcs ?_;refine hK.out _ _ (hid (hHeld.out.setRow h14 _)) (fun hHeld=>?_);clear hK K
         try simp only [pk]
         refine qp 18 fun K hK=>?_;refine wp_store_row 29 _ _ rfl (V1.heap.size) #[.int .i64 re,.int .i64 rp] rfl rfl 29 _ (qAI H15.out hne15) (qA6 _ _) rfl (qA9 _ _) ?_;refine hK.out _ _ (hid (hHeld.out.setRow h15 _)) (fun hHeld=>?_);clear hK K
         try simp only [pk]
         refine wpAnyH_done (by kernel_rfl) ?_ _;clear hHeld
         go_wp2
         go_meet
         exact Mc37.of (R:=(rb,re,rp)) h14 h15 hloW (Ne.symm hne15) far14 far15 H14.out H15.out HBV.out HH.out
     · have h14:W.heap.size≤V0.heap.size:=hHeld.out.size
       have H14:=hid (BX.new V0 dhZ 53);have HBV:=hid (hHeld.out.alloc hHeld.out.size (.cells dhZ 53));have hal:V0.heap.size < (V0.alloc (.cells dhZ 53)).heap.size:=by simp
       go_wp2_with fail
       change K _ (V0.alloc (.cells dhZ 53))
       generalize (V0.alloc (.cells dhZ 53))=V1 at *;refine hK.out _ _ HBV (fun hHeld=>?_);clear hK K
       try simp only [pk]
       refine qH0 11 16 (by kernel_rfl) rfl rfl rfl rfl (fun K hK=>?_) (fun K hK=>?_)
       · go_simp
         refine (HCH.out _ hHeld.out).mono ?_;rintro rr V2 ⟨hv,rfl,hsz,hcs,hzs,hD,hb1⟩;have HBV:=hid (hHeld.out.trans (hb1.mono hHeld.out.size));have hloW:W.heap.size≤V1.heap.size:=hHeld.out.size;have HH:Hid (re=0→HfB V1.heap.size V2.heap.size V2 hv rb):=hid hD;have hcur:V2.heap.size≤V2.heap.size:=Nat.le_refl _;have far14:V0.heap.size < V1.heap.size∨V2.heap.size≤V0.heap.size:=.inl H14.out.lt;have H14:=hid (H14.out.below hb1 H14.out.lt);clear hD HCH hHeld
         go_wp2_with fail
         refine hK.out _ _ HBV (fun hHeld=>?_);clear hK K
         try simp only [pk]
         refine' qt 12 hHeld ?_
         try simp only [pk]
         refine' qt 13 hHeld ?_
         try simp only [pk]
         refine' qt 14 hHeld ?_
         try simp only [pk]
         refine qp 16 fun K hK=>?_;have h15:W.heap.size≤V2.heap.size:=hHeld.out.size;have H15:=hid (BX.new V2 #[.int .i64 0,.int .i64 0] 29);have HBV:=hid (hHeld.out.alloc hHeld.out.size (.cells #[.int .i64 0,.int .i64 0] 29));have hal:V2.heap.size < (V2.alloc (.cells #[.int .i64 0,.int .i64 0] 29)).heap.size:=by simp
         have hlt:=H14.out.lt;have hne15:V2.heap.size≠V0.heap.size:=by omega
         have H14:=hid (H14.out.alloc (.cells #[.int .i64 0,.int .i64 0] 29));have HH:=hid (fun h0=>(HH.out h0).below ((Below.refl V2.heap.size V2).alloc (Nat.le_refl _) (.cells #[.int .i64 0,.int .i64 0] 29)) hcur);have far15:V2.heap.size < V1.heap.size∨V2.heap.size≤V2.heap.size:=.inr hcur;have hcur:V2.heap.size≤(V2.alloc (.cells #[.int .i64 0,.int .i64 0] 29)).heap.size:=Nat.le_trans hcur (Nat.le_of_lt hal)
         go_wp2_with fail
         change K _ (V2.alloc (.cells #[.int .i64 0,.int .i64 0] 29))
         generalize (V2.alloc (.cells #[.int .i64 0,.int .i64 0] 29))=V3 at *;refine hK.out _ _ HBV (fun hHeld=>?_);clear hK K
         try simp only [pk]
         refine qp 17 fun K hK=>?_;refine wp_store_row 53 _ _ rfl (V0.heap.size) hv rfl rfl 53 dhZ H14.out hsz hzs hcs ?_;refine hK.out _ _ (hid (hHeld.out.setRow h14 _)) (fun hHeld=>?_);clear hK K
         try simp only [pk]
         refine qp 18 fun K hK=>?_;refine wp_store_row 29 _ _ rfl (V2.heap.size) #[.int .i64 re,.int .i64 rp] rfl rfl 29 _ (qAI H15.out hne15) (qA6 _ _) rfl (qA9 _ _) ?_;refine hK.out _ _ (hid (hHeld.out.setRow h15 _)) (fun hHeld=>?_);clear hK K
         try simp only [pk]
         refine wpAnyH_done (by kernel_rfl) ?_ _;clear hHeld
         go_wp2
         go_meet
         exact Mc37.of (R:=(rb,re,rp)) h14 h15 hloW (Ne.symm hne15) far14 far15 H14.out H15.out HBV.out HH.out
       · have h15:W.heap.size≤V1.heap.size:=hHeld.out.size
         have H15:=hid (BX.new V1 #[.int .i64 0,.int .i64 0] 29);have HBV:=hid (hHeld.out.alloc hHeld.out.size (.cells #[.int .i64 0,.int .i64 0] 29));have hal:V1.heap.size < (V1.alloc (.cells #[.int .i64 0,.int .i64 0] 29)).heap.size:=by simp
         have hlt:=H14.out.lt;have hne15:V1.heap.size≠V0.heap.size:=by omega
         have H14:=hid (H14.out.alloc (.cells #[.int .i64 0,.int .i64 0] 29))
         go_wp2_with fail
         change K _ (V1.alloc (.cells #[.int .i64 0,.int .i64 0] 29))
         generalize (V1.alloc (.cells #[.int .i64 0,.int .i64 0] 29))=V2 at *;refine hK.out _ _ HBV (fun hHeld=>?_);clear hK K
         try simp only [pk]
         refine qp 11 fun K hK=>?_;go_simp;refine (HCH.out _ hHeld.out).mono ?_;rintro rr V3 ⟨hv,rfl,hsz,hcs,hzs,hD,hb1⟩;have HBV:=hid (hHeld.out.trans (hb1.mono hHeld.out.size));have hloW:W.heap.size≤V2.heap.size:=hHeld.out.size;have HH:Hid (re=0→HfB V2.heap.size V3.heap.size V3 hv rb):=hid hD;have hcur:V3.heap.size≤V3.heap.size:=Nat.le_refl _;have far14:V0.heap.size < V2.heap.size∨V3.heap.size≤V0.heap.size:=.inl H14.out.lt;have H14:=hid (H14.out.below hb1 H14.out.lt);have far15:V1.heap.size < V2.heap.size∨V3.heap.size≤V1.heap.size:=.inl H15.out.lt;have H15:=hid (H15.out.below hb1 H15.out.lt);clear hD HCH hHeld
         go_wp2_with fail
         refine hK.out _ _ HBV (fun hHeld=>?_);clear hK K
         try simp only [pk]
         refine' qt 12 hHeld ?_
         try simp only [pk]
         refine' qt 13 hHeld ?_
         try simp only [pk]
         refine' qt 14 hHeld ?_
         try simp only [pk]
         refine qp 17 fun K hK=>?_;refine wp_store_row 53 _ _ rfl (V0.heap.size) hv rfl rfl 53 dhZ H14.out hsz hzs hcs ?_;refine hK.out _ _ (hid (hHeld.out.setRow h14 _)) (fun hHeld=>?_);clear hK K
         try simp only [pk]
         refine qp 18 fun K hK=>?_;refine wp_store_row 29 _ _ rfl (V1.heap.size) #[.int .i64 re,.int .i64 rp] rfl rfl 29 _ (qAI H15.out hne15) (qA6 _ _) rfl (qA9 _ _) ?_;refine hK.out _ _ (hid (hHeld.out.setRow h15 _)) (fun hHeld=>?_);clear hK K
         try simp only [pk]
         refine wpAnyH_done (by kernel_rfl) ?_ _;clear hHeld
         go_wp2
         go_meet
         exact Mc37.of (R:=(rb,re,rp)) h14 h15 hloW (Ne.symm hne15) far14 far15 H14.out H15.out HBV.out HH.out
     · have h15:W.heap.size≤V0.heap.size:=hHeld.out.size
       have H15:=hid (BX.new V0 #[.int .i64 0,.int .i64 0] 29);have HBV:=hid (hHeld.out.alloc hHeld.out.size (.cells #[.int .i64 0,.int .i64 0] 29));have hal:V0.heap.size < (V0.alloc (.cells #[.int .i64 0,.int .i64 0] 29)).heap.size:=by simp
       go_wp2_with fail
       change K _ (V0.alloc (.cells #[.int .i64 0,.int .i64 0] 29))
       generalize (V0.alloc (.cells #[.int .i64 0,.int .i64 0] 29))=V1 at *;refine hK.out _ _ HBV (fun hHeld=>?_);clear hK K
       try simp only [pk]
       refine qH0 11 15 (by kernel_rfl) rfl rfl rfl rfl (fun K hK=>?_) (fun K hK=>?_)
       · go_simp
         refine (HCH.out _ hHeld.out).mono ?_;rintro rr V2 ⟨hv,rfl,hsz,hcs,hzs,hD,hb1⟩;have HBV:=hid (hHeld.out.trans (hb1.mono hHeld.out.size));have hloW:W.heap.size≤V1.heap.size:=hHeld.out.size;have HH:Hid (re=0→HfB V1.heap.size V2.heap.size V2 hv rb):=hid hD;have hcur:V2.heap.size≤V2.heap.size:=Nat.le_refl _;have far15:V0.heap.size < V1.heap.size∨V2.heap.size≤V0.heap.size:=.inl H15.out.lt;have H15:=hid (H15.out.below hb1 H15.out.lt);clear hD HCH hHeld
         go_wp2_with fail
         refine hK.out _ _ HBV (fun hHeld=>?_);clear hK K
         try simp only [pk]
         refine' qt 12 hHeld ?_
         try simp only [pk]
         refine' qt 13 hHeld ?_
         try simp only [pk]
         refine' qt 14 hHeld ?_
         try simp only [pk]
         refine qp 15 fun K hK=>?_;have h14:W.heap.size≤V2.heap.size:=hHeld.out.size;have H14:=hid (BX.new V2 dhZ 53);have HBV:=hid (hHeld.out.alloc hHeld.out.size (.cells dhZ 53));have hal:V2.heap.size < (V2.alloc (.cells dhZ 53)).heap.size:=by simp
         have hlt:=H15.out.lt;have hne15:V0.heap.size≠V2.heap.size:=by omega
         have H15:=hid (H15.out.alloc (.cells dhZ 53));have HH:=hid (fun h0=>(HH.out h0).below ((Below.refl V2.heap.size V2).alloc (Nat.le_refl _) (.cells dhZ 53)) hcur);have far14:V2.heap.size < V1.heap.size∨V2.heap.size≤V2.heap.size:=.inr hcur;have hcur:V2.heap.size≤(V2.alloc (.cells dhZ 53)).heap.size:=Nat.le_trans hcur (Nat.le_of_lt hal)
         go_wp2_with fail
         change K _ (V2.alloc (.cells dhZ 53))
         generalize (V2.alloc (.cells dhZ 53))=V3 at *;refine hK.out _ _ HBV (fun hHeld=>?_);clear hK K
         try simp only [pk]
         refine qp 17 fun K hK=>?_;refine wp_store_row 53 _ _ rfl (V2.heap.size) hv rfl rfl 53 dhZ H14.out hsz hzs hcs ?_;refine hK.out _ _ (hid (hHeld.out.setRow h14 _)) (fun hHeld=>?_);clear hK K
         try simp only [pk]
         refine qp 18 fun K hK=>?_;refine wp_store_row 29 _ _ rfl (V0.heap.size) #[.int .i64 re,.int .i64 rp] rfl rfl 29 _ (qAI H15.out hne15) (qA6 _ _) rfl (qA9 _ _) ?_;refine hK.out _ _ (hid (hHeld.out.setRow h15 _)) (fun hHeld=>?_);clear hK K
         try simp only [pk]
         refine wpAnyH_done (by kernel_rfl) ?_ _;clear hHeld
         go_wp2
         go_meet
         exact Mc37.of (R:=(rb,re,rp)) h14 h15 hloW (Ne.symm hne15) far14 far15 H14.out H15.out HBV.out HH.out
       · have h14:W.heap.size≤V1.heap.size:=hHeld.out.size
         have H14:=hid (BX.new V1 dhZ 53);have HBV:=hid (hHeld.out.alloc hHeld.out.size (.cells dhZ 53));have hal:V1.heap.size < (V1.alloc (.cells dhZ 53)).heap.size:=by simp
         have hlt:=H15.out.lt;have hne15:V0.heap.size≠V1.heap.size:=by omega
         have H15:=hid (H15.out.alloc (.cells dhZ 53))
         go_wp2_with fail
         change K _ (V1.alloc (.cells dhZ 53))
         generalize (V1.alloc (.cells dhZ 53))=V2 at *;refine hK.out _ _ HBV (fun hHeld=>?_);clear hK K
         try simp only [pk]
         refine qp 11 fun K hK=>?_;go_simp;refine (HCH.out _ hHeld.out).mono ?_;rintro rr V3 ⟨hv,rfl,hsz,hcs,hzs,hD,hb1⟩;have HBV:=hid (hHeld.out.trans (hb1.mono hHeld.out.size));have hloW:W.heap.size≤V2.heap.size:=hHeld.out.size;have HH:Hid (re=0→HfB V2.heap.size V3.heap.size V3 hv rb):=hid hD;have hcur:V3.heap.size≤V3.heap.size:=Nat.le_refl _;have far14:V1.heap.size < V2.heap.size∨V3.heap.size≤V1.heap.size:=.inl H14.out.lt;have H14:=hid (H14.out.below hb1 H14.out.lt);have far15:V0.heap.size < V2.heap.size∨V3.heap.size≤V0.heap.size:=.inl H15.out.lt;have H15:=hid (H15.out.below hb1 H15.out.lt);clear hD HCH hHeld
         go_wp2_with fail
         refine hK.out _ _ HBV (fun hHeld=>?_);clear hK K
         try simp only [pk]
         refine' qt 12 hHeld ?_
         try simp only [pk]
         refine' qt 13 hHeld ?_
         try simp only [pk]
         refine' qt 14 hHeld ?_
         try simp only [pk]
         refine qp 17 fun K hK=>?_;refine wp_store_row 53 _ _ rfl (V1.heap.size) hv rfl rfl 53 dhZ H14.out hsz hzs hcs ?_;refine hK.out _ _ (hid (hHeld.out.setRow h14 _)) (fun hHeld=>?_);clear hK K
         try simp only [pk]
         refine qp 18 fun K hK=>?_;refine wp_store_row 29 _ _ rfl (V0.heap.size) #[.int .i64 re,.int .i64 rp] rfl rfl 29 _ (qAI H15.out hne15) (qA6 _ _) rfl (qA9 _ _) ?_;refine hK.out _ _ (hid (hHeld.out.setRow h15 _)) (fun hHeld=>?_);clear hK K
         try simp only [pk]
         refine wpAnyH_done (by kernel_rfl) ?_ _;clear hHeld
         go_wp2
         go_meet
         exact Mc37.of (R:=(rb,re,rp)) h14 h15 hloW (Ne.symm hne15) far14 far15 H14.out H15.out HBV.out HH.out
    case rest=>
    obtain ⟨b14,b15,lo2,hi2,hv,rfl,rfl,h14,h15,hlo2,hb14,hb15,hbc,hH⟩:=hcut;have HX:=hid (HX.out.below hbc);have HP:=hid (HP.out.below hbc hpW);have HI1:=hid (HI1.out.below hbc HI1.out.hi_);have HI2:=hid (HI2.out.below hbc HI2.out.hi_);have HB14:=hid hb14;have HBC:=hid hbc;have HH:=hid hH;have y0:wc.cell? ⟨b15,0,none⟩=some (.int .i64 re):=hb15.c 0;have y1:wc.cell? ⟨b15,1,none⟩=some (.int .i64 rp):=hb15.c 1;clear hb14 hb15 hbc hH HCH HSL HI3 HB HF HE D2 gw1 gw2
    by_cases he:re=0
    · have gp:(re != 0)=false:=by simpa using he
      have HC:=hid (HC2.out he);obtain ⟨B1,k1,j1,B2,k2,j2,rfl,q1,q2⟩:=HH.out he;have HQ1:=hid q1;have HQ2:=hid q2;clear he HC1 HC2 HH q1 q2
      go_upto_region 40 with (first | go_skip | fail)
      have z0:wc.cell? ⟨b14,0,none⟩=some (.slice B1 k1 j1):=HB14.out.c 0;have z1:wc.cell? ⟨b14,1,none⟩=some (.slice B2 k2 j2):=HB14.out.c 1;have x2:wc.cell? ⟨p,2,none⟩=some (.bool false):=HP.out.c 2;have x3:wc.cell? ⟨p,3,none⟩=some (.slice X3 n3 c3):=HP.out.c 3;have x4:wc.cell? ⟨p,4,none⟩=some (.slice X2 n2 c2):=HP.out.c 4;have f2:=HP.out.fr 2;have f3:=HP.out.fr 3;have f4:=HP.out.fr 4;have hpb:p≠b14:=by omega
      have hbp:b14≠p:=by omega
      clear y0 y1
      go_region
      go_wp2_with (first | go_skip | fail)
      go_meet
      have hdr:∀ {lo hi:Nat} {A:Option Addr} {n c:Nat} {is:List Itm},g+2≤lo→(p < lo∨hi≤p)→Btw wc lo hi A n c is→Btw (((wc.setCell ⟨p,2,none⟩ (.bool true)).setCell ⟨p,3,none⟩ (.slice B1 k1 j1)).setCell ⟨p,4,none⟩ (.slice B2 k2 j2)).drew (g+2) hi A n c is:=fun hg hlo hB=>
       have h1:=(((hB.set hlo 2 (.bool true)).set hlo 3 (.slice B1 k1 j1)).set hlo 4 (.slice B2 k2 j2)).keep (w':=(((wc.setCell ⟨p,2,none⟩ (.bool true)).setCell ⟨p,3,none⟩ (.slice B1 k1 j1)).setCell ⟨p,4,none⟩ (.slice B2 k2 j2)).drew) (Nat.le_refl _) (fun _ _ _=>rfl)
       h1.mono hg (Nat.le_refl _) h1.hi_
      exact ⟨_,two16 R1.1 rb,pv_b4 (pv_b3 (pv_b2 HP.out _) _) _,⟨X1,n1,c1,X2,n2,c2,B1,k1,j1,B2,k2,j2,hi,hi,hi2,hi2,rfl,hdr (by omega) (.inr (by omega)) HI1.out,hdr (by omega) (.inr (by omega)) HI2.out,hdr (by omega) (.inl (by omega)) HQ1.out,hdr (by omega) (.inl (by omega)) HQ2.out⟩,HC.out,
       ((((HBC.out.mono (show g+2≤W.heap.size by omega)).setCell (p:=⟨p,2,none⟩) (show g+2≤p by omega) _).setCell (p:=⟨p,3,none⟩) (show g+2≤p by omega) _).setCell (p:=⟨p,4,none⟩) (show g+2≤p by omega) _).drew⟩
    · have gp:(re != 0)=true:=by simpa using he
      have HE:=hid he;have HZ:=hid (HC1.out he);clear he HC1 HC2 HH
      go_upto_region 39 with (first | go_skip | fail)
      have HXd:=hid HX.out.drew;have HR:=hid (HXd.out.ret patZ (.int .i64 re) (.int .i64 rp));refine wp_region_held_drew (S:=(fun W9:World=>W9.cell? ⟨b15,0,none⟩=some (.int .i64 re)∧W9.cell? ⟨b15,1,none⟩=some (.int .i64 rp))) (by kernel_rfl) (⟨y0,y1⟩) (fun hHeld=>?_);refine' qt 0 hHeld ?_
      try simp only [pk]
      refine' qCB 1 (v:=_) rfl (by kernel_rfl) (by kernel_rfl) (by kernel_rfl) (fun _ _ _ h=>h) rfl ?y45 hHeld ?r45
      case y45=>
       intro w hSw
       try dsimp only at hSw
       have k0:=hSw.1;have k1:=hSw.2;go_simp
       try with_reducible rfl
      try simp only [pk]
      refine qp 2 fun K hK=>?_;refine wp_store_row 26 _ _ rfl g patZ rfl rfl 26 patZ HXd.out.bp (qA3 _ _ _ _ _ {} _ _ _) rfl (qA8 {}) ?_;refine hK.out _ _ (⟨(cell_setRow_other _ _ _ _ (by show b15≠g; omega)).trans hHeld.1,(cell_setRow_other _ _ _ _ (by show b15≠g; omega)).trans hHeld.2⟩) (fun hHeld=>?_);clear hK K
      try simp only [Act.put]
      refine qp 3 fun K hK=>?_;refine wp_store_row 29 _ _ rfl (g+1) #[.int .i64 re,.int .i64 rp] rfl rfl 29 _ (qAI HXd.out.bf (by omega)) (qA6 _ _) rfl (qA9 _ _) ?_;refine hK.out _ _ (⟨(cell_setRow_other _ _ _ _ (by show b15≠g+1; omega)).trans hHeld.1,(cell_setRow_other _ _ _ _ (by show b15≠g+1; omega)).trans hHeld.2⟩) (fun hHeld=>?_);clear hK K
      try simp only [Act.put]
      refine wpAnyH_done (by kernel_rfl) ?_ _;clear hHeld
      go_wp2
      exact bodyPost_ret (v:=.tuple #[.agg patZ,.agg #[.int .i64 re,.int .i64 rp]]) (qAE Try.results6 _ _ g _ _ (0,0) _ rfl HR.out.1 Try.underlying26 rfl (qA3 _ _ _ _ _ {} _ _ _) (g+1) _ _ (0,0) _ rfl HR.out.2.1 Try.underlying29 rfl (qA6 _ _)) rfl (qBF.fault HZ.out HE.out HR.out.2.2)
 case rest=>
 obtain ⟨PV,P,hbp,hpt,hC,hbb⟩:=hcut
 go_step
 refine wp_mono (c:=qHP) (hN s w wc g p PV P hs (hid (HX.out.keep hbb)) (hid hbp) (by omega) (hid hpt) (hid hC) _ ⟨rfl,rfl,rfl,rfl⟩) ?_
 intro e a w' h
 go_step
 exact h
end Go.Proofs.Ytohfadegildnaaa
