import Derived.Test.YtnoeonaajefajaaGreatDoorQMD
set_option linter.all false
set_option maxRecDepth 100000
namespace Go.Proofs.YtnoeonaajefajaaGreatDoor
open Go.RowKit
open Lib (hid)
set_option maxHeartbeats 4000000 in
theorem cntd_c (m:ByteArray) (sc:Bool) (ex wh fr:ByteArray) (pt:Bool) (ba:ByteArray) (w:World) (hM:Mw w) :
 Calls Tryz.prog 192 #[.agg (ptV m sc ex wh fr pt ba)] w fun e w'=>e=.returned (.bool (cntd ⟨bts m,sc,bts ex,bts wh,bts fr,pt,bts ba⟩))∧Below w.heap.size w w':=by
 have HX:=hid (PX.new (m:=m) (sc:=sc) (ex:=ex) (wh:=wh) (fr:=fr) (pt:=pt) (ba:=ba) hM)
 obtain ⟨c0,c1,c2,c3,c4,c5,c6⟩:=HX.out.cells
 clear hM
 generalize hW:w.alloc (.cells (ptV m sc ex wh fr pt ba) 156)=W at *
 have HW:=hid hW
 clear hW
 generalize hg:w.heap.size=g at *
 have Hg:=hid hg
 clear hg
 have HER:=hid (show cntd ⟨bts m,sc,bts ex,bts wh,bts fr,pt,bts ba⟩=(bts m).any (inS8 ⟨#[64]⟩) by rw [in_a64]; rfl)
 have HH:=hid (fun w v hv=>qH0 ⟨#[64]⟩ m v w (qBY rfl) (by decide) hv)
 go_enter Tryz.func192,Tryz.ntmps192
 go_upto_region 1 with fail
 rw [HW.out,Hg.out]
 refine wp_region_held_drew (S:=(fun W:World=>Hid (PX w W g m sc ex wh fr pt ba)∧W.cell? ⟨g,0,none⟩=some (.string m)∧W.cell? ⟨g,1,none⟩=some (.bool sc)∧W.cell? ⟨g,2,none⟩=some (.string ex)∧W.cell? ⟨g,3,none⟩=some (.string wh)∧W.cell? ⟨g,4,none⟩=some (.string fr)∧W.cell? ⟨g,5,none⟩=some (.bool pt)∧W.cell? ⟨g,6,none⟩=some (.string ba))) (by kernel_rfl) (PX.S HX.out.drew) (fun hHeld=>?_)
 clear HX c0 c1 c2 c3 c4 c5 c6
 refine' qt 0 hHeld ?_
 try simp only [pk]
 refine' qt 1 hHeld ?_
 try simp only [pk]
 refine qp 2 fun K hK=>?_
 go_simp
 refine (of_c ⟨#[64]⟩ _).mono ?_
 rintro r wx1 ⟨B1,rfl,hv1,hbx⟩
 have hHX:=hHeld.1.out.below hbx
 skip
 clear hHeld hbx
 go_wp2_with fail
 refine hK.out _ _ (PX.S hHX) (fun hHeld=>?_)
 clear hK K hHX
 try simp only [pk]
 refine qp 3 fun K hK=>?_
 go_simp
 refine (HH.out _ _ hv1).mono ?_
 rintro r wx2 ⟨rfl,hbx⟩
 have hHX:=hHeld.1.out.below hbx
 skip
 clear hHeld hbx
 go_wp2_with fail
 refine hK.out _ _ (PX.S hHX) (fun hHeld=>?_)
 clear hK K hHX
 try simp only [pk]
 refine' qt 4 hHeld ?_
 try simp only [pk]
 refine wpAnyH_done (by kernel_rfl) ?_ _
 obtain ⟨HX,c0,c1,c2,c3,c4,c5,c6⟩:=hHeld
 go_wp2
 go_ret
 rw [HER.out]
 exact ⟨rfl,Hg.out ▸ HX.out.b⟩
set_option maxHeartbeats 4000000 in
theorem er2_c (m:ByteArray) (sc:Bool) (ex wh fr:ByteArray) (pt:Bool) (ba:ByteArray) (w:World) (hM:Mw w) :
 Calls Tryz.prog 182 #[.agg (ptV m sc ex wh fr pt ba)] w fun e w'=>e=.returned (.int .i64 ((er2 ⟨bts m,sc,bts ex,bts wh,bts fr,pt,bts ba⟩:Nat):Int))∧Below w.heap.size w w':=by
 have HX:=hid (PX.new (m:=m) (sc:=sc) (ex:=ex) (wh:=wh) (fr:=fr) (pt:=pt) (ba:=ba) hM)
 obtain ⟨c0,c1,c2,c3,c4,c5,c6⟩:=HX.out.cells
 clear hM
 generalize hW:w.alloc (.cells (ptV m sc ex wh fr pt ba) 156)=W at *
 have HW:=hid hW
 clear hW
 generalize hg:w.heap.size=g at *
 have Hg:=hid hg
 clear hg
 have HER:=hid (show er2 ⟨bts m,sc,bts ex,bts wh,bts fr,pt,bts ba⟩=if !((bts m).dropWhile (inS8 ⟨#[35,48,49,50,51,52,53,54,55,56,57,64,44,46]⟩)).isEmpty || (bts fr).any (· == 46) || (pt && fr.toList.isEmpty) then 4 else 0 by rw [in_okB,qB8]; rfl)
 have HI:=hid (fun w v hv=>inRows1a_c ⟨#[35,48,49,50,51,52,53,54,55,56,57,64,44,46]⟩ m v 254 w hv rfl (by decide))
 have HC:=hid (fun W=>contains1_c fr 46 W)
 generalize er2 ⟨bts m,sc,bts ex,bts wh,bts fr,pt,bts ba⟩=E at *
 generalize ((bts m).dropWhile (inS8 ⟨#[35,48,49,50,51,52,53,54,55,56,57,64,44,46]⟩)).isEmpty=b1 at *
 have HC:Hid (∀ W,Calls Tryz.prog 238 #[.string fr,.string ⟨#[46]⟩] W fun e w'=>e=.returned (.bool ((bts fr).any (· == 46)))∧W=w'):=HC
 generalize (bts fr).any (· == 46)=b2 at *
 go_enter Tryz.func182,Tryz.ntmps182
 go_upto_region 1 with fail
 rw [HW.out,Hg.out]
 rcases b1 with _ | _
 · refine wp_region_held_drew (S:=(fun W:World=>Hid (PX w W g m sc ex wh fr pt ba)∧W.cell? ⟨g,0,none⟩=some (.string m)∧W.cell? ⟨g,1,none⟩=some (.bool sc)∧W.cell? ⟨g,2,none⟩=some (.string ex)∧W.cell? ⟨g,3,none⟩=some (.string wh)∧W.cell? ⟨g,4,none⟩=some (.string fr)∧W.cell? ⟨g,5,none⟩=some (.bool pt)∧W.cell? ⟨g,6,none⟩=some (.string ba))) (by kernel_rfl) (PX.S HX.out.drew) (fun hHeld=>?_)
   clear HX c0 c1 c2 c3 c4 c5 c6;refine' qt 0 hHeld ?_
   try simp only [pk]
   refine' qt 1 hHeld ?_
   try simp only [pk]
   refine qp 2 fun K hK=>?_;go_simp;refine (of_c ⟨#[35,48,49,50,51,52,53,54,55,56,57,64,44,46]⟩ _).mono ?_;rintro r wx1 ⟨B1,rfl,hv1,hbx⟩;have hHX:=hHeld.1.out.below hbx
   skip
   clear hHeld hbx
   go_wp2_with fail
   refine hK.out _ _ (PX.S hHX) (fun hHeld=>?_);clear hK K hHX
   try simp only [pk]
   refine qp 3 fun K hK=>?_;go_simp;refine hK.out _ _ (PX.S (hHeld.1.out.below (qA2 _ _))) (fun hHeld=>?_);clear hK K
   try simp only [pk]
   refine qp 4 fun K hK=>?_;go_simp;refine (HI.out _ _ hv1).mono ?_;rintro r wx2 ⟨rfl,hbx⟩;have hHX:=hHeld.1.out.below hbx
   skip
   clear hHeld hbx
   go_wp2_with fail
   refine hK.out _ _ (PX.S hHX) (fun hHeld=>?_);clear hK K hHX
   try simp only [pk]
   refine' qt 5 hHeld ?_
   try simp only [pk]
   refine' qt 6 hHeld ?_
   try simp only [pk]
   refine qs 7 hHeld ?_
   try simp only [pk]
   refine qs 8 hHeld ?_
   try simp only [pk]
   refine qs 9 hHeld ?_
   try simp only [pk]
   refine' qt 10 hHeld ?_
   try simp only [pk]
   refine' qt 11 hHeld ?_
   try simp only [pk]
   refine qs 12 hHeld ?_
   try simp only [pk]
   refine qs 13 hHeld ?_
   try simp only [pk]
   refine qs 14 hHeld ?_
   try simp only [pk]
   refine qs 15 hHeld ?_
   try simp only [pk]
   refine qs 16 hHeld ?_
   try simp only [pk]
   refine qs 17 hHeld ?_
   try simp only [pk]
   refine qs 18 hHeld ?_
   try simp only [pk]
   refine' qt 19 hHeld ?_
   try simp only [pk]
   refine wpAnyH_done (by kernel_rfl) ?_ _;obtain ⟨HX,c0,c1,c2,c3,c4,c5,c6⟩:=hHeld
   go_wp2
   go_ret
   rw [HER.out];exact ⟨rfl,Hg.out ▸ HX.out.b⟩
 · rcases b2 with _ | _
   · rcases pt with _ | _
     · refine wp_region_held_drew (S:=(fun W:World=>Hid (PX w W g m sc ex wh fr false ba)∧W.cell? ⟨g,0,none⟩=some (.string m)∧W.cell? ⟨g,1,none⟩=some (.bool sc)∧W.cell? ⟨g,2,none⟩=some (.string ex)∧W.cell? ⟨g,3,none⟩=some (.string wh)∧W.cell? ⟨g,4,none⟩=some (.string fr)∧W.cell? ⟨g,5,none⟩=some (.bool false)∧W.cell? ⟨g,6,none⟩=some (.string ba))) (by kernel_rfl) (PX.S HX.out.drew) (fun hHeld=>?_)
       clear HX c0 c1 c2 c3 c4 c5 c6;refine' qt 0 hHeld ?_
       try simp only [pk]
       refine' qt 1 hHeld ?_
       try simp only [pk]
       refine qp 2 fun K hK=>?_;go_simp;refine (of_c ⟨#[35,48,49,50,51,52,53,54,55,56,57,64,44,46]⟩ _).mono ?_;rintro r wx1 ⟨B1,rfl,hv1,hbx⟩;have hHX:=hHeld.1.out.below hbx
       skip
       clear hHeld hbx
       go_wp2_with fail
       refine hK.out _ _ (PX.S hHX) (fun hHeld=>?_);clear hK K hHX
       try simp only [pk]
       refine qp 3 fun K hK=>?_;go_simp;refine hK.out _ _ (PX.S (hHeld.1.out.below (qA2 _ _))) (fun hHeld=>?_);clear hK K
       try simp only [pk]
       refine qp 4 fun K hK=>?_;go_simp;refine (HI.out _ _ hv1).mono ?_;rintro r wx2 ⟨rfl,hbx⟩;have hHX:=hHeld.1.out.below hbx
       skip
       clear hHeld hbx
       go_wp2_with fail
       refine hK.out _ _ (PX.S hHX) (fun hHeld=>?_);clear hK K hHX
       try simp only [pk]
       refine' qt 5 hHeld ?_
       try simp only [pk]
       refine' qt 6 hHeld ?_
       try simp only [pk]
       refine' qt 7 hHeld ?_
       try simp only [pk]
       refine' qt 8 hHeld ?_
       try simp only [pk]
       refine qp 9 fun K hK=>?_;go_simp;refine (HC.out _).mono ?_;rintro r w1 ⟨rfl,rfl⟩
       go_wp2_with fail
       refine hK.out _ _ hHeld (fun hHeld=>?_);clear hK K
       try simp only [pk]
       refine' qt 10 hHeld ?_
       try simp only [pk]
       refine' qt 11 hHeld ?_
       try simp only [pk]
       refine' qt 12 hHeld ?_
       try simp only [pk]
       refine' qt 13 hHeld ?_
       try simp only [pk]
       refine' qt 14 hHeld ?_
       try simp only [pk]
       refine qs 15 hHeld ?_
       try simp only [pk]
       refine qs 16 hHeld ?_
       try simp only [pk]
       refine qs 17 hHeld ?_
       try simp only [pk]
       refine' qt 18 hHeld ?_
       try simp only [pk]
       refine' qt 19 hHeld ?_
       try simp only [pk]
       refine wpAnyH_done (by kernel_rfl) ?_ _;obtain ⟨HX,c0,c1,c2,c3,c4,c5,c6⟩:=hHeld
       go_wp2
       go_ret
       rw [HER.out];exact ⟨rfl,Hg.out ▸ HX.out.b⟩
     · rcases hb3:fr.toList.isEmpty with _ | _
       · rw [hb3] at HER
         refine wp_region_held_drew (S:=(fun W:World=>Hid (PX w W g m sc ex wh fr true ba)∧W.cell? ⟨g,0,none⟩=some (.string m)∧W.cell? ⟨g,1,none⟩=some (.bool sc)∧W.cell? ⟨g,2,none⟩=some (.string ex)∧W.cell? ⟨g,3,none⟩=some (.string wh)∧W.cell? ⟨g,4,none⟩=some (.string fr)∧W.cell? ⟨g,5,none⟩=some (.bool true)∧W.cell? ⟨g,6,none⟩=some (.string ba))) (by kernel_rfl) (PX.S HX.out.drew) (fun hHeld=>?_);clear HX c0 c1 c2 c3 c4 c5 c6;refine' qt 0 hHeld ?_
         try simp only [pk]
         refine' qt 1 hHeld ?_
         try simp only [pk]
         refine qp 2 fun K hK=>?_;go_simp;refine (of_c ⟨#[35,48,49,50,51,52,53,54,55,56,57,64,44,46]⟩ _).mono ?_;rintro r wx1 ⟨B1,rfl,hv1,hbx⟩;have hHX:=hHeld.1.out.below hbx
         skip
         clear hHeld hbx
         go_wp2_with fail
         refine hK.out _ _ (PX.S hHX) (fun hHeld=>?_);clear hK K hHX
         try simp only [pk]
         refine qp 3 fun K hK=>?_;go_simp;refine hK.out _ _ (PX.S (hHeld.1.out.below (qA2 _ _))) (fun hHeld=>?_);clear hK K
         try simp only [pk]
         refine qp 4 fun K hK=>?_;go_simp;refine (HI.out _ _ hv1).mono ?_;rintro r wx2 ⟨rfl,hbx⟩;have hHX:=hHeld.1.out.below hbx
         skip
         clear hHeld hbx
         go_wp2_with fail
         refine hK.out _ _ (PX.S hHX) (fun hHeld=>?_);clear hK K hHX
         try simp only [pk]
         refine' qt 5 hHeld ?_
         try simp only [pk]
         refine' qt 6 hHeld ?_
         try simp only [pk]
         refine' qt 7 hHeld ?_
         try simp only [pk]
         refine' qt 8 hHeld ?_
         try simp only [pk]
         refine qp 9 fun K hK=>?_;go_simp;refine (HC.out _).mono ?_;rintro r w1 ⟨rfl,rfl⟩
         go_wp2_with fail
         refine hK.out _ _ hHeld (fun hHeld=>?_);clear hK K
         try simp only [pk]
         refine' qt 10 hHeld ?_
         try simp only [pk]
         refine' qt 11 hHeld ?_
         try simp only [pk]
         refine' qt 12 hHeld ?_
         try simp only [pk]
         refine' qt 13 hHeld ?_
         try simp only [pk]
         refine' qt 14 hHeld ?_
         try simp only [pk]
         refine' qt 15 hHeld ?_
         try simp only [pk]
         refine' qt 16 hHeld ?_
         try simp only [pk]
         refine' qt 17 hHeld ?_
         try simp only [pk]
         refine' qt 18 hHeld ?_
         try simp only [pk]
         refine' qt 19 hHeld ?_
         try simp only [pk]
         refine wpAnyH_done (by kernel_rfl) ?_ _;obtain ⟨HX,c0,c1,c2,c3,c4,c5,c6⟩:=hHeld
         go_wp2
         go_ret
         rw [HER.out];exact ⟨rfl,Hg.out ▸ HX.out.b⟩
       · rw [hb3] at HER
         refine wp_region_held_drew (S:=(fun W:World=>Hid (PX w W g m sc ex wh fr true ba)∧W.cell? ⟨g,0,none⟩=some (.string m)∧W.cell? ⟨g,1,none⟩=some (.bool sc)∧W.cell? ⟨g,2,none⟩=some (.string ex)∧W.cell? ⟨g,3,none⟩=some (.string wh)∧W.cell? ⟨g,4,none⟩=some (.string fr)∧W.cell? ⟨g,5,none⟩=some (.bool true)∧W.cell? ⟨g,6,none⟩=some (.string ba))) (by kernel_rfl) (PX.S HX.out.drew) (fun hHeld=>?_);clear HX c0 c1 c2 c3 c4 c5 c6;refine' qt 0 hHeld ?_
         try simp only [pk]
         refine' qt 1 hHeld ?_
         try simp only [pk]
         refine qp 2 fun K hK=>?_;go_simp;refine (of_c ⟨#[35,48,49,50,51,52,53,54,55,56,57,64,44,46]⟩ _).mono ?_;rintro r wx1 ⟨B1,rfl,hv1,hbx⟩;have hHX:=hHeld.1.out.below hbx
         skip
         clear hHeld hbx
         go_wp2_with fail
         refine hK.out _ _ (PX.S hHX) (fun hHeld=>?_);clear hK K hHX
         try simp only [pk]
         refine qp 3 fun K hK=>?_;go_simp;refine hK.out _ _ (PX.S (hHeld.1.out.below (qA2 _ _))) (fun hHeld=>?_);clear hK K
         try simp only [pk]
         refine qp 4 fun K hK=>?_;go_simp;refine (HI.out _ _ hv1).mono ?_;rintro r wx2 ⟨rfl,hbx⟩;have hHX:=hHeld.1.out.below hbx
         skip
         clear hHeld hbx
         go_wp2_with fail
         refine hK.out _ _ (PX.S hHX) (fun hHeld=>?_);clear hK K hHX
         try simp only [pk]
         refine' qt 5 hHeld ?_
         try simp only [pk]
         refine' qt 6 hHeld ?_
         try simp only [pk]
         refine' qt 7 hHeld ?_
         try simp only [pk]
         refine' qt 8 hHeld ?_
         try simp only [pk]
         refine qp 9 fun K hK=>?_;go_simp;refine (HC.out _).mono ?_;rintro r w1 ⟨rfl,rfl⟩
         go_wp2_with fail
         refine hK.out _ _ hHeld (fun hHeld=>?_);clear hK K
         try simp only [pk]
         refine' qt 10 hHeld ?_
         try simp only [pk]
         refine' qt 11 hHeld ?_
         try simp only [pk]
         refine' qt 12 hHeld ?_
         try simp only [pk]
         refine' qt 13 hHeld ?_
         try simp only [pk]
         refine' qt 14 hHeld ?_
         try simp only [pk]
         refine' qt 15 hHeld ?_
         try simp only [pk]
         refine' qt 16 hHeld ?_
         try simp only [pk]
         refine' qt 17 hHeld ?_
         try simp only [pk]
         refine' qt 18 hHeld ?_
         try simp only [pk]
         refine' qt 19 hHeld ?_
         try simp only [pk]
         refine wpAnyH_done (by kernel_rfl) ?_ _;obtain ⟨HX,c0,c1,c2,c3,c4,c5,c6⟩:=hHeld
         go_wp2
         go_ret
         rw [HER.out];exact ⟨rfl,Hg.out ▸ HX.out.b⟩
   · refine wp_region_held_drew (S:=(fun W:World=>Hid (PX w W g m sc ex wh fr pt ba)∧W.cell? ⟨g,0,none⟩=some (.string m)∧W.cell? ⟨g,1,none⟩=some (.bool sc)∧W.cell? ⟨g,2,none⟩=some (.string ex)∧W.cell? ⟨g,3,none⟩=some (.string wh)∧W.cell? ⟨g,4,none⟩=some (.string fr)∧W.cell? ⟨g,5,none⟩=some (.bool pt)∧W.cell? ⟨g,6,none⟩=some (.string ba))) (by kernel_rfl) (PX.S HX.out.drew) (fun hHeld=>?_)
     clear HX c0 c1 c2 c3 c4 c5 c6;refine' qt 0 hHeld ?_
     try simp only [pk]
     refine' qt 1 hHeld ?_
     try simp only [pk]
     refine qp 2 fun K hK=>?_;go_simp;refine (of_c ⟨#[35,48,49,50,51,52,53,54,55,56,57,64,44,46]⟩ _).mono ?_;rintro r wx1 ⟨B1,rfl,hv1,hbx⟩;have hHX:=hHeld.1.out.below hbx
     skip
     clear hHeld hbx
     go_wp2_with fail
     refine hK.out _ _ (PX.S hHX) (fun hHeld=>?_);clear hK K hHX
     try simp only [pk]
     refine qp 3 fun K hK=>?_;go_simp;refine hK.out _ _ (PX.S (hHeld.1.out.below (qA2 _ _))) (fun hHeld=>?_);clear hK K
     try simp only [pk]
     refine qp 4 fun K hK=>?_;go_simp;refine (HI.out _ _ hv1).mono ?_;rintro r wx2 ⟨rfl,hbx⟩;have hHX:=hHeld.1.out.below hbx
     skip
     clear hHeld hbx
     go_wp2_with fail
     refine hK.out _ _ (PX.S hHX) (fun hHeld=>?_);clear hK K hHX
     try simp only [pk]
     refine' qt 5 hHeld ?_
     try simp only [pk]
     refine' qt 6 hHeld ?_
     try simp only [pk]
     refine' qt 7 hHeld ?_
     try simp only [pk]
     refine' qt 8 hHeld ?_
     try simp only [pk]
     refine qp 9 fun K hK=>?_;go_simp;refine (HC.out _).mono ?_;rintro r w1 ⟨rfl,rfl⟩
     go_wp2_with fail
     refine hK.out _ _ hHeld (fun hHeld=>?_);clear hK K
     try simp only [pk]
     refine' qt 10 hHeld ?_
     try simp only [pk]
     refine' qt 11 hHeld ?_
     try simp only [pk]
     refine qs 12 hHeld ?_
     try simp only [pk]
     refine qs 13 hHeld ?_
     try simp only [pk]
     refine qs 14 hHeld ?_
     try simp only [pk]
     refine qs 15 hHeld ?_
     try simp only [pk]
     refine qs 16 hHeld ?_
     try simp only [pk]
     refine qs 17 hHeld ?_
     try simp only [pk]
     refine qs 18 hHeld ?_
     try simp only [pk]
     refine' qt 19 hHeld ?_
     try simp only [pk]
     refine wpAnyH_done (by kernel_rfl) ?_ _;obtain ⟨HX,c0,c1,c2,c3,c4,c5,c6⟩:=hHeld
     go_wp2
     go_ret
     rw [HER.out];exact ⟨rfl,Hg.out ▸ HX.out.b⟩
set_option maxHeartbeats 4000000 in
theorem er3_c (m:ByteArray) (sc:Bool) (ex wh fr:ByteArray) (pt:Bool) (ba:ByteArray) (w:World) (hM:Mw w) (hs:wh.size < 4294967281) :
 Calls Tryz.prog 183 #[.agg (ptV m sc ex wh fr pt ba)] w fun e w'=>e=.returned (.int .i64 ((er3 ⟨bts m,sc,bts ex,bts wh,bts fr,pt,bts ba⟩:Nat):Int))∧Below w.heap.size w w':=by
 have HX:=hid (PX.new (m:=m) (sc:=sc) (ex:=ex) (wh:=wh) (fr:=fr) (pt:=pt) (ba:=ba) hM)
 obtain ⟨c0,c1,c2,c3,c4,c5,c6⟩:=HX.out.cells
 clear hM
 generalize hW:w.alloc (.cells (ptV m sc ex wh fr pt ba) 156)=W at *
 have HW:=hid hW
 clear hW
 generalize hg:w.heap.size=g at *
 have Hg:=hid hg
 clear hg
 have HER:=hid (show er3 ⟨bts m,sc,bts ex,bts wh,bts fr,pt,bts ba⟩=if (bts fr).any (inS8 ⟨#[44]⟩) || decide ((bts wh).head? = some 44) || decide ((bts wh).getLast? = some 44) || dblC (bts wh) then 5 else 0 by rw [in_44]; rfl)
 have HH:=hid (fun w v hv=>qH0 ⟨#[44]⟩ fr v w (qBY rfl) (by decide) hv)
 have H2:Hid (∀ W,Calls Tryz.prog 171 #[.string wh,.string ⟨#[44]⟩] W fun e w'=>e=.returned (.bool (decide ((bts wh).head? = some 44)))∧W=w'):=hid (fun W=>qFS wh 44 W)
 have H3:Hid (∀ W,Calls Tryz.prog 240 #[.string wh,.string ⟨#[44]⟩] W fun e w'=>e=.returned (.bool (decide ((bts wh).getLast? = some 44)))∧W=w'):=hid (fun W=>strSuffix_c wh 44 W hs)
 have H4:=hid (fun W (h:Mw W)=>contains2_c wh W h hs)
 generalize er3 ⟨bts m,sc,bts ex,bts wh,bts fr,pt,bts ba⟩=E at *
 generalize (bts fr).any (inS8 ⟨#[44]⟩)=b1 at *
 generalize decide ((bts wh).head? = some 44)=b2 at *
 generalize decide ((bts wh).getLast? = some 44)=b3 at *
 generalize dblC (bts wh)=b4 at *
 go_enter Tryz.func183,Tryz.ntmps183
 go_upto_region 1 with fail
 rw [HW.out,Hg.out]
 refine wp_region_held_drew (S:=(fun W:World=>Hid (PX w W g m sc ex wh fr pt ba)∧W.cell? ⟨g,0,none⟩=some (.string m)∧W.cell? ⟨g,1,none⟩=some (.bool sc)∧W.cell? ⟨g,2,none⟩=some (.string ex)∧W.cell? ⟨g,3,none⟩=some (.string wh)∧W.cell? ⟨g,4,none⟩=some (.string fr)∧W.cell? ⟨g,5,none⟩=some (.bool pt)∧W.cell? ⟨g,6,none⟩=some (.string ba))) (by kernel_rfl) (PX.S HX.out.drew) (fun hHeld=>?_)
 clear HX c0 c1 c2 c3 c4 c5 c6
 refine' qt 0 hHeld ?_
 try simp only [pk]
 refine' qt 1 hHeld ?_
 try simp only [pk]
 refine qp 2 fun K hK=>?_
 go_simp
 refine (of_c ⟨#[44]⟩ _).mono ?_
 rintro r wx1 ⟨B1,rfl,hv1,hbx⟩
 have hHX:=hHeld.1.out.below hbx
 skip
 clear hHeld hbx
 go_wp2_with fail
 refine hK.out _ _ (PX.S hHX) (fun hHeld=>?_)
 clear hK K hHX
 try simp only [pk]
 refine qp 3 fun K hK=>?_
 go_simp
 refine (HH.out _ _ hv1).mono ?_
 rintro r wx2 ⟨rfl,hbx⟩
 have hHX:=hHeld.1.out.below hbx
 skip
 clear hHeld hbx
 go_wp2_with fail
 refine hK.out _ _ (PX.S hHX) (fun hHeld=>?_)
 clear hK K hHX
 try simp only [pk]
 refine' qt 4 hHeld ?_
 try simp only [pk]
 refine wpAnyH_done (by kernel_rfl) ?_ _
 obtain ⟨HX,c0,c1,c2,c3,c4,c5,c6⟩:=hHeld
 rcases b1 with _ | _
 · rcases b2 with _ | _
   · rcases b3 with _ | _
     · rcases b4 with _ | _
       · go_wp2_with (first
          | (go_at_call 171; refine (H2.out _).mono ?_; rintro e w' ⟨rfl,rfl⟩)
          | (go_at_call 240; refine (H3.out _).mono ?_; rintro e w' ⟨rfl,rfl⟩)
          | (go_at_call 238; refine (H4.out _ HX.out.mw).mono ?_; rintro e w' ⟨rfl,rfl⟩)
          | fail)
         go_ret
         rw [HER.out];exact ⟨rfl,Hg.out ▸ HX.out.b⟩
       · go_wp2_with (first
          | (go_at_call 171; refine (H2.out _).mono ?_; rintro e w' ⟨rfl,rfl⟩)
          | (go_at_call 240; refine (H3.out _).mono ?_; rintro e w' ⟨rfl,rfl⟩)
          | (go_at_call 238; refine (H4.out _ HX.out.mw).mono ?_; rintro e w' ⟨rfl,rfl⟩)
          | fail)
         go_ret
         rw [HER.out];exact ⟨rfl,Hg.out ▸ HX.out.b⟩
     · go_wp2_with (first
        | (go_at_call 171; refine (H2.out _).mono ?_; rintro e w' ⟨rfl,rfl⟩)
        | (go_at_call 240; refine (H3.out _).mono ?_; rintro e w' ⟨rfl,rfl⟩)
        | (go_at_call 238; refine (H4.out _ HX.out.mw).mono ?_; rintro e w' ⟨rfl,rfl⟩)
        | fail)
       go_ret
       rw [HER.out];exact ⟨rfl,Hg.out ▸ HX.out.b⟩
   · go_wp2_with (first
      | (go_at_call 171; refine (H2.out _).mono ?_; rintro e w' ⟨rfl,rfl⟩)
      | (go_at_call 240; refine (H3.out _).mono ?_; rintro e w' ⟨rfl,rfl⟩)
      | (go_at_call 238; refine (H4.out _ HX.out.mw).mono ?_; rintro e w' ⟨rfl,rfl⟩)
      | fail)
     go_ret
     rw [HER.out];exact ⟨rfl,Hg.out ▸ HX.out.b⟩
 · go_wp2_with (first
    | (go_at_call 171; refine (H2.out _).mono ?_; rintro e w' ⟨rfl,rfl⟩)
    | (go_at_call 240; refine (H3.out _).mono ?_; rintro e w' ⟨rfl,rfl⟩)
    | (go_at_call 238; refine (H4.out _ HX.out.mw).mono ?_; rintro e w' ⟨rfl,rfl⟩)
    | fail)
   go_ret
   rw [HER.out];exact ⟨rfl,Hg.out ▸ HX.out.b⟩
set_option maxHeartbeats 4000000 in
theorem er4_c (m:ByteArray) (sc:Bool) (ex wh fr:ByteArray) (pt:Bool) (ba:ByteArray) (w:World) (hM:Mw w) :
 Calls Tryz.prog 184 #[.agg (ptV m sc ex wh fr pt ba)] w fun e w'=>e=.returned (.int .i64 ((er4 ⟨bts m,sc,bts ex,bts wh,bts fr,pt,bts ba⟩:Nat):Int))∧Below w.heap.size w w':=by
 have HX:=hid (PX.new (m:=m) (sc:=sc) (ex:=ex) (wh:=wh) (fr:=fr) (pt:=pt) (ba:=ba) hM)
 obtain ⟨c0,c1,c2,c3,c4,c5,c6⟩:=HX.out.cells
 clear hM
 generalize hW:w.alloc (.cells (ptV m sc ex wh fr pt ba) 156)=W at *
 have HW:=hid hW
 clear hW
 generalize hg:w.heap.size=g at *
 have Hg:=hid hg
 clear hg
 have HER:=hid (show er4 ⟨bts m,sc,bts ex,bts wh,bts fr,pt,bts ba⟩=if wh.toList.isEmpty && fr.toList.isEmpty then 4 else 0 by rw [qB8,qB8]; rfl)
 generalize er4 ⟨bts m,sc,bts ex,bts wh,bts fr,pt,bts ba⟩=E at *
 go_enter Tryz.func184,Tryz.ntmps184
 go_upto_region 1 with fail
 rw [HW.out,Hg.out]
 rcases h_b1:wh.toList.isEmpty with _ | _
 · rw [h_b1] at HER
   go_wp2
   go_ret
   rw [HER.out];exact ⟨rfl,Hg.out ▸ HX.out.b⟩
 · rw [h_b1] at HER
   rcases h_b2:fr.toList.isEmpty with _ | _
   · rw [h_b2] at HER
     go_wp2
     go_ret
     rw [HER.out];exact ⟨rfl,Hg.out ▸ HX.out.b⟩
   · rw [h_b2] at HER
     go_wp2
     go_ret
     rw [HER.out];exact ⟨rfl,Hg.out ▸ HX.out.b⟩
set_option maxHeartbeats 4000000 in
theorem er5_c (m:ByteArray) (sc:Bool) (ex wh fr:ByteArray) (pt:Bool) (ba:ByteArray) (w:World) (hM:Mw w) :
 Calls Tryz.prog 185 #[.agg (ptV m sc ex wh fr pt ba)] w fun e w'=>e=.returned (.int .i64 ((er5 ⟨bts m,sc,bts ex,bts wh,bts fr,pt,bts ba⟩:Nat):Int))∧Below w.heap.size w w':=by
 have HX:=hid (PX.new (m:=m) (sc:=sc) (ex:=ex) (wh:=wh) (fr:=fr) (pt:=pt) (ba:=ba) hM)
 obtain ⟨c0,c1,c2,c3,c4,c5,c6⟩:=HX.out.cells
 clear hM
 generalize hW:w.alloc (.cells (ptV m sc ex wh fr pt ba) 156)=W at *
 have HW:=hid hW
 clear hW
 generalize hg:w.heap.size=g at *
 have Hg:=hid hg
 clear hg
 have HER:=hid (show er5 ⟨bts m,sc,bts ex,bts wh,bts fr,pt,bts ba⟩=if !cntd ⟨bts m,sc,bts ex,bts wh,bts fr,pt,bts ba⟩ then 0 else if pt || (bts wh).any (inS8 ⟨#[48,49,50,51,52,53,54,55,56,57]⟩) then 6 else if !((((bts ba).dropWhile (inS8 ⟨#[35]⟩)).dropWhile (inS8 ⟨#[64]⟩)).dropWhile (inS8 ⟨#[35]⟩)).isEmpty then 4 else 0 by
  rw [in_dg,in_h35,in_a64]; rfl)
 have HCT:=hid (fun W (h:Mw W)=>cntd_c m sc ex wh fr pt ba W h)
 have HH:=hid (fun w v hv=>qH0 ⟨#[48,49,50,51,52,53,54,55,56,57]⟩ wh v w (qBY rfl) (by decide) hv)
 have HI:=hid (fun w v v' v'' hv hv' hv''=>inRows3a_c ⟨#[35]⟩ ⟨#[64]⟩ ⟨#[35]⟩ ba v v' v'' 254 w hv hv' hv'' rfl rfl rfl (by decide) (by decide) (by decide))
 generalize er5 ⟨bts m,sc,bts ex,bts wh,bts fr,pt,bts ba⟩=E at *
 generalize cntd ⟨bts m,sc,bts ex,bts wh,bts fr,pt,bts ba⟩=bc at *
 generalize (bts wh).any (inS8 ⟨#[48,49,50,51,52,53,54,55,56,57]⟩)=b2 at *
 generalize ((((bts ba).dropWhile (inS8 ⟨#[35]⟩)).dropWhile (inS8 ⟨#[64]⟩)).dropWhile (inS8 ⟨#[35]⟩)).isEmpty=b3 at *
 go_enter Tryz.func185,Tryz.ntmps185
 go_upto_region 1 with fail
 rw [HW.out,Hg.out]
 rcases bc with _ | _
 · go_wp2_with (first
    | (go_at_call 192; refine (HCT.out _ HX.out.mw).mono ?_; rintro e wk ⟨rfl,hbx⟩; have HX:=hid (HX.out.below hbx); obtain ⟨c0,c1,c2,c3,c4,c5,c6⟩:=HX.out.cells; clear hbx)
    | fail)
   go_ret
   rw [HER.out];exact ⟨rfl,Hg.out ▸ HX.out.b⟩
 · rcases pt with _ | _
   · rcases b2 with _ | _
     · rcases b3 with _ | _
       · go_wp2_with (first
          | (go_at_call 192; refine (HCT.out _ HX.out.mw).mono ?_; rintro e wk ⟨rfl,hbx⟩; have HX:=hid (HX.out.below hbx); obtain ⟨c0,c1,c2,c3,c4,c5,c6⟩:=HX.out.cells; clear hbx)
          | fail)
         refine wp_region_held_drew (S:=(fun W:World=>Hid (PX w W g m sc ex wh fr false ba)∧W.cell? ⟨g,0,none⟩=some (.string m)∧W.cell? ⟨g,1,none⟩=some (.bool sc)∧W.cell? ⟨g,2,none⟩=some (.string ex)∧W.cell? ⟨g,3,none⟩=some (.string wh)∧W.cell? ⟨g,4,none⟩=some (.string fr)∧W.cell? ⟨g,5,none⟩=some (.bool false)∧W.cell? ⟨g,6,none⟩=some (.string ba))) (by kernel_rfl) (PX.S HX.out.drew) (fun hHeld=>?_);clear HX c0 c1 c2 c3 c4 c5 c6;refine' qt 0 hHeld ?_
         try simp only [pk]
         refine' qt 1 hHeld ?_
         try simp only [pk]
         refine' qt 2 hHeld ?_
         try simp only [pk]
         refine' qt 3 hHeld ?_
         try simp only [pk]
         refine' qt 4 hHeld ?_
         try simp only [pk]
         refine qp 5 fun K hK=>?_;go_simp;refine (of_c ⟨#[48,49,50,51,52,53,54,55,56,57]⟩ _).mono ?_;rintro r wx1 ⟨B1,rfl,hv1,hbx⟩;have hHX:=hHeld.1.out.below hbx
         skip
         clear hHeld hbx
         go_wp2_with fail
         refine hK.out _ _ (PX.S hHX) (fun hHeld=>?_);clear hK K hHX
         try simp only [pk]
         refine qp 6 fun K hK=>?_;go_simp;refine (HH.out _ _ hv1).mono ?_;rintro r wx2 ⟨rfl,hbx⟩;have hHX:=hHeld.1.out.below hbx
         skip
         clear hHeld hbx
         go_wp2_with fail
         refine hK.out _ _ (PX.S hHX) (fun hHeld=>?_);clear hK K hHX
         try simp only [pk]
         refine' qt 7 hHeld ?_
         try simp only [pk]
         refine' qt 8 hHeld ?_
         try simp only [pk]
         refine wpAnyH_done (by kernel_rfl) ?_ _;obtain ⟨HX,c0,c1,c2,c3,c4,c5,c6⟩:=hHeld
         go_wp2_with fail
         refine wp_region_held_drew (S:=(fun W:World=>Hid (PX w W g m sc ex wh fr false ba)∧W.cell? ⟨g,0,none⟩=some (.string m)∧W.cell? ⟨g,1,none⟩=some (.bool sc)∧W.cell? ⟨g,2,none⟩=some (.string ex)∧W.cell? ⟨g,3,none⟩=some (.string wh)∧W.cell? ⟨g,4,none⟩=some (.string fr)∧W.cell? ⟨g,5,none⟩=some (.bool false)∧W.cell? ⟨g,6,none⟩=some (.string ba))) (by kernel_rfl) (PX.S HX.out.drew) (fun hHeld=>?_);clear HX c0 c1 c2 c3 c4 c5 c6;refine' qt 0 hHeld ?_
         try simp only [pk]
         refine' qt 1 hHeld ?_
         try simp only [pk]
         refine qp 2 fun K hK=>?_;go_simp;refine (of_c ⟨#[35]⟩ _).mono ?_;rintro r wx1 ⟨B1,rfl,hv1,hbx⟩;have hHX:=hHeld.1.out.below hbx
         skip
         clear hHeld hbx
         go_wp2_with fail
         refine hK.out _ _ (PX.S hHX) (fun hHeld=>?_);clear hK K hHX
         try simp only [pk]
         refine qp 3 fun K hK=>?_;go_simp;refine (of_c ⟨#[64]⟩ _).mono ?_;rintro r wx2 ⟨B2,rfl,hv2,hbx⟩;have hHX:=hHeld.1.out.below hbx;have hv1:=hv1.below hbx;clear hHeld hbx
         go_wp2_with fail
         refine hK.out _ _ (PX.S hHX) (fun hHeld=>?_);clear hK K hHX
         try simp only [pk]
         refine qp 4 fun K hK=>?_;go_simp;refine (of_c ⟨#[35]⟩ _).mono ?_;rintro r wx3 ⟨B3,rfl,hv3,hbx⟩;have hHX:=hHeld.1.out.below hbx;have hv1:=hv1.below hbx;have hv2:=hv2.below hbx;clear hHeld hbx
         go_wp2_with fail
         refine hK.out _ _ (PX.S hHX) (fun hHeld=>?_);clear hK K hHX
         try simp only [pk]
         refine qp 5 fun K hK=>?_;go_simp;refine hK.out _ _ (PX.S (hHeld.1.out.below (qA2 _ _))) (fun hHeld=>?_);clear hK K
         try simp only [pk]
         refine qp 6 fun K hK=>?_;go_simp;refine (HI.out _ _ _ _ hv1 hv2 hv3).mono ?_;rintro r wx4 ⟨rfl,hbx⟩;have hHX:=hHeld.1.out.below hbx
         skip
         clear hHeld hbx
         go_wp2_with fail
         refine hK.out _ _ (PX.S hHX) (fun hHeld=>?_);clear hK K hHX
         try simp only [pk]
         refine' qt 7 hHeld ?_
         try simp only [pk]
         refine' qt 8 hHeld ?_
         try simp only [pk]
         refine wpAnyH_done (by kernel_rfl) ?_ _;obtain ⟨HX,c0,c1,c2,c3,c4,c5,c6⟩:=hHeld
         go_wp2
         go_ret
         rw [HER.out];exact ⟨rfl,Hg.out ▸ HX.out.b⟩
       · go_wp2_with (first
          | (go_at_call 192; refine (HCT.out _ HX.out.mw).mono ?_; rintro e wk ⟨rfl,hbx⟩; have HX:=hid (HX.out.below hbx); obtain ⟨c0,c1,c2,c3,c4,c5,c6⟩:=HX.out.cells; clear hbx)
          | fail)
         refine wp_region_held_drew (S:=(fun W:World=>Hid (PX w W g m sc ex wh fr false ba)∧W.cell? ⟨g,0,none⟩=some (.string m)∧W.cell? ⟨g,1,none⟩=some (.bool sc)∧W.cell? ⟨g,2,none⟩=some (.string ex)∧W.cell? ⟨g,3,none⟩=some (.string wh)∧W.cell? ⟨g,4,none⟩=some (.string fr)∧W.cell? ⟨g,5,none⟩=some (.bool false)∧W.cell? ⟨g,6,none⟩=some (.string ba))) (by kernel_rfl) (PX.S HX.out.drew) (fun hHeld=>?_);clear HX c0 c1 c2 c3 c4 c5 c6;refine' qt 0 hHeld ?_
         try simp only [pk]
         refine' qt 1 hHeld ?_
         try simp only [pk]
         refine' qt 2 hHeld ?_
         try simp only [pk]
         refine' qt 3 hHeld ?_
         try simp only [pk]
         refine' qt 4 hHeld ?_
         try simp only [pk]
         refine qp 5 fun K hK=>?_;go_simp;refine (of_c ⟨#[48,49,50,51,52,53,54,55,56,57]⟩ _).mono ?_;rintro r wx1 ⟨B1,rfl,hv1,hbx⟩;have hHX:=hHeld.1.out.below hbx
         skip
         clear hHeld hbx
         go_wp2_with fail
         refine hK.out _ _ (PX.S hHX) (fun hHeld=>?_);clear hK K hHX
         try simp only [pk]
         refine qp 6 fun K hK=>?_;go_simp;refine (HH.out _ _ hv1).mono ?_;rintro r wx2 ⟨rfl,hbx⟩;have hHX:=hHeld.1.out.below hbx
         skip
         clear hHeld hbx
         go_wp2_with fail
         refine hK.out _ _ (PX.S hHX) (fun hHeld=>?_);clear hK K hHX
         try simp only [pk]
         refine' qt 7 hHeld ?_
         try simp only [pk]
         refine' qt 8 hHeld ?_
         try simp only [pk]
         refine wpAnyH_done (by kernel_rfl) ?_ _;obtain ⟨HX,c0,c1,c2,c3,c4,c5,c6⟩:=hHeld
         go_wp2_with fail
         refine wp_region_held_drew (S:=(fun W:World=>Hid (PX w W g m sc ex wh fr false ba)∧W.cell? ⟨g,0,none⟩=some (.string m)∧W.cell? ⟨g,1,none⟩=some (.bool sc)∧W.cell? ⟨g,2,none⟩=some (.string ex)∧W.cell? ⟨g,3,none⟩=some (.string wh)∧W.cell? ⟨g,4,none⟩=some (.string fr)∧W.cell? ⟨g,5,none⟩=some (.bool false)∧W.cell? ⟨g,6,none⟩=some (.string ba))) (by kernel_rfl) (PX.S HX.out.drew) (fun hHeld=>?_);clear HX c0 c1 c2 c3 c4 c5 c6;refine' qt 0 hHeld ?_
         try simp only [pk]
         refine' qt 1 hHeld ?_
         try simp only [pk]
         refine qp 2 fun K hK=>?_;go_simp;refine (of_c ⟨#[35]⟩ _).mono ?_;rintro r wx1 ⟨B1,rfl,hv1,hbx⟩;have hHX:=hHeld.1.out.below hbx
         skip
         clear hHeld hbx
         go_wp2_with fail
         refine hK.out _ _ (PX.S hHX) (fun hHeld=>?_);clear hK K hHX
         try simp only [pk]
         refine qp 3 fun K hK=>?_;go_simp;refine (of_c ⟨#[64]⟩ _).mono ?_;rintro r wx2 ⟨B2,rfl,hv2,hbx⟩;have hHX:=hHeld.1.out.below hbx;have hv1:=hv1.below hbx;clear hHeld hbx
         go_wp2_with fail
         refine hK.out _ _ (PX.S hHX) (fun hHeld=>?_);clear hK K hHX
         try simp only [pk]
         refine qp 4 fun K hK=>?_;go_simp;refine (of_c ⟨#[35]⟩ _).mono ?_;rintro r wx3 ⟨B3,rfl,hv3,hbx⟩;have hHX:=hHeld.1.out.below hbx;have hv1:=hv1.below hbx;have hv2:=hv2.below hbx;clear hHeld hbx
         go_wp2_with fail
         refine hK.out _ _ (PX.S hHX) (fun hHeld=>?_);clear hK K hHX
         try simp only [pk]
         refine qp 5 fun K hK=>?_;go_simp;refine hK.out _ _ (PX.S (hHeld.1.out.below (qA2 _ _))) (fun hHeld=>?_);clear hK K
         try simp only [pk]
         refine qp 6 fun K hK=>?_;go_simp;refine (HI.out _ _ _ _ hv1 hv2 hv3).mono ?_;rintro r wx4 ⟨rfl,hbx⟩;have hHX:=hHeld.1.out.below hbx
         skip
         clear hHeld hbx
         go_wp2_with fail
         refine hK.out _ _ (PX.S hHX) (fun hHeld=>?_);clear hK K hHX
         try simp only [pk]
         refine' qt 7 hHeld ?_
         try simp only [pk]
         refine' qt 8 hHeld ?_
         try simp only [pk]
         refine wpAnyH_done (by kernel_rfl) ?_ _;obtain ⟨HX,c0,c1,c2,c3,c4,c5,c6⟩:=hHeld
         go_wp2
         go_ret
         rw [HER.out];exact ⟨rfl,Hg.out ▸ HX.out.b⟩
     · go_wp2_with (first
        | (go_at_call 192; refine (HCT.out _ HX.out.mw).mono ?_; rintro e wk ⟨rfl,hbx⟩; have HX:=hid (HX.out.below hbx); obtain ⟨c0,c1,c2,c3,c4,c5,c6⟩:=HX.out.cells; clear hbx)
        | fail)
       refine wp_region_held_drew (S:=(fun W:World=>Hid (PX w W g m sc ex wh fr false ba)∧W.cell? ⟨g,0,none⟩=some (.string m)∧W.cell? ⟨g,1,none⟩=some (.bool sc)∧W.cell? ⟨g,2,none⟩=some (.string ex)∧W.cell? ⟨g,3,none⟩=some (.string wh)∧W.cell? ⟨g,4,none⟩=some (.string fr)∧W.cell? ⟨g,5,none⟩=some (.bool false)∧W.cell? ⟨g,6,none⟩=some (.string ba))) (by kernel_rfl) (PX.S HX.out.drew) (fun hHeld=>?_);clear HX c0 c1 c2 c3 c4 c5 c6;refine' qt 0 hHeld ?_
       try simp only [pk]
       refine' qt 1 hHeld ?_
       try simp only [pk]
       refine' qt 2 hHeld ?_
       try simp only [pk]
       refine' qt 3 hHeld ?_
       try simp only [pk]
       refine' qt 4 hHeld ?_
       try simp only [pk]
       refine qp 5 fun K hK=>?_;go_simp;refine (of_c ⟨#[48,49,50,51,52,53,54,55,56,57]⟩ _).mono ?_;rintro r wx1 ⟨B1,rfl,hv1,hbx⟩;have hHX:=hHeld.1.out.below hbx
       skip
       clear hHeld hbx
       go_wp2_with fail
       refine hK.out _ _ (PX.S hHX) (fun hHeld=>?_);clear hK K hHX
       try simp only [pk]
       refine qp 6 fun K hK=>?_;go_simp;refine (HH.out _ _ hv1).mono ?_;rintro r wx2 ⟨rfl,hbx⟩;have hHX:=hHeld.1.out.below hbx
       skip
       clear hHeld hbx
       go_wp2_with fail
       refine hK.out _ _ (PX.S hHX) (fun hHeld=>?_);clear hK K hHX
       try simp only [pk]
       refine' qt 7 hHeld ?_
       try simp only [pk]
       refine' qt 8 hHeld ?_
       try simp only [pk]
       refine wpAnyH_done (by kernel_rfl) ?_ _;obtain ⟨HX,c0,c1,c2,c3,c4,c5,c6⟩:=hHeld
       go_wp2
       go_ret
       rw [HER.out];exact ⟨rfl,Hg.out ▸ HX.out.b⟩
   · go_wp2_with (first
      | (go_at_call 192; refine (HCT.out _ HX.out.mw).mono ?_; rintro e wk ⟨rfl,hbx⟩; have HX:=hid (HX.out.below hbx); obtain ⟨c0,c1,c2,c3,c4,c5,c6⟩:=HX.out.cells; clear hbx)
      | fail)
     refine wp_region_held_drew (S:=(fun W:World=>Hid (PX w W g m sc ex wh fr true ba)∧W.cell? ⟨g,0,none⟩=some (.string m)∧W.cell? ⟨g,1,none⟩=some (.bool sc)∧W.cell? ⟨g,2,none⟩=some (.string ex)∧W.cell? ⟨g,3,none⟩=some (.string wh)∧W.cell? ⟨g,4,none⟩=some (.string fr)∧W.cell? ⟨g,5,none⟩=some (.bool true)∧W.cell? ⟨g,6,none⟩=some (.string ba))) (by kernel_rfl) (PX.S HX.out.drew) (fun hHeld=>?_);clear HX c0 c1 c2 c3 c4 c5 c6;refine' qt 0 hHeld ?_
     try simp only [pk]
     refine' qt 1 hHeld ?_
     try simp only [pk]
     refine' qt 2 hHeld ?_
     try simp only [pk]
     refine qs 3 hHeld ?_
     try simp only [pk]
     refine qs 4 hHeld ?_
     try simp only [pk]
     refine qs 5 hHeld ?_
     try simp only [pk]
     refine qs 6 hHeld ?_
     try simp only [pk]
     refine' qt 7 hHeld ?_
     try simp only [pk]
     refine' qt 8 hHeld ?_
     try simp only [pk]
     refine wpAnyH_done (by kernel_rfl) ?_ _;obtain ⟨HX,c0,c1,c2,c3,c4,c5,c6⟩:=hHeld
     go_wp2
     go_ret
     rw [HER.out];exact ⟨rfl,Hg.out ▸ HX.out.b⟩
set_option maxHeartbeats 4000000 in
theorem er6_c (m:ByteArray) (sc:Bool) (ex wh fr:ByteArray) (pt:Bool) (ba:ByteArray) (w:World) (hM:Mw w) :
 Calls Tryz.prog 186 #[.agg (ptV m sc ex wh fr pt ba)] w fun e w'=>e=.returned (.int .i64 ((er6 ⟨bts m,sc,bts ex,bts wh,bts fr,pt,bts ba⟩:Nat):Int))∧Below w.heap.size w w':=by
 have HX:=hid (PX.new (m:=m) (sc:=sc) (ex:=ex) (wh:=wh) (fr:=fr) (pt:=pt) (ba:=ba) hM)
 obtain ⟨c0,c1,c2,c3,c4,c5,c6⟩:=HX.out.cells
 clear hM
 generalize hW:w.alloc (.cells (ptV m sc ex wh fr pt ba) 156)=W at *
 have HW:=hid hW
 clear hW
 generalize hg:w.heap.size=g at *
 have Hg:=hid hg
 clear hg
 have HER:=hid (show er6 ⟨bts m,sc,bts ex,bts wh,bts fr,pt,bts ba⟩=if !cntd ⟨bts m,sc,bts ex,bts wh,bts fr,pt,bts ba⟩ && !((((bts ba).dropWhile (inS8 ⟨#[35]⟩)).dropWhile (inS8 ⟨#[48,49,50,51,52,53,54,55,56,57]⟩)).isEmpty && (((bts fr).dropWhile (inS8 ⟨#[48,49,50,51,52,53,54,55,56,57]⟩)).dropWhile (inS8 ⟨#[35]⟩)).isEmpty) then 4 else 0 by
  rw [in_dg,in_h35]; rfl)
 have HCT:=hid (fun W (h:Mw W)=>cntd_c m sc ex wh fr pt ba W h)
 have H1:=hid (fun w v v' hv hv'=>qJJ ⟨#[35]⟩ ⟨#[48,49,50,51,52,53,54,55,56,57]⟩ ba v v' 254 w hv hv' rfl rfl (by decide) (by decide))
 have H2:=hid (fun w v v' hv hv'=>qJJ ⟨#[48,49,50,51,52,53,54,55,56,57]⟩ ⟨#[35]⟩ fr v v' 254 w hv hv' rfl rfl (by decide) (by decide))
 generalize er6 ⟨bts m,sc,bts ex,bts wh,bts fr,pt,bts ba⟩=E at *
 generalize cntd ⟨bts m,sc,bts ex,bts wh,bts fr,pt,bts ba⟩=bc at *
 generalize (((bts ba).dropWhile (inS8 ⟨#[35]⟩)).dropWhile (inS8 ⟨#[48,49,50,51,52,53,54,55,56,57]⟩)).isEmpty=b1 at *
 generalize (((bts fr).dropWhile (inS8 ⟨#[48,49,50,51,52,53,54,55,56,57]⟩)).dropWhile (inS8 ⟨#[35]⟩)).isEmpty=b2 at *
 go_enter Tryz.func186,Tryz.ntmps186
 go_upto_region 1 with fail
 rw [HW.out,Hg.out]
 rcases bc with _ | _
 · rcases b1 with _ | _
   · refine wp_region_held_drew (S:=(fun W:World=>Hid (PX w W g m sc ex wh fr pt ba)∧W.cell? ⟨g,0,none⟩=some (.string m)∧W.cell? ⟨g,1,none⟩=some (.bool sc)∧W.cell? ⟨g,2,none⟩=some (.string ex)∧W.cell? ⟨g,3,none⟩=some (.string wh)∧W.cell? ⟨g,4,none⟩=some (.string fr)∧W.cell? ⟨g,5,none⟩=some (.bool pt)∧W.cell? ⟨g,6,none⟩=some (.string ba))) (by kernel_rfl) (PX.S HX.out.drew) (fun hHeld=>?_)
     clear HX c0 c1 c2 c3 c4 c5 c6;refine' qt 0 hHeld ?_
     try simp only [pk]
     refine qp 1 fun K hK=>?_;go_simp;refine (HCT.out _ hHeld.1.out.mw).mono ?_;rintro r wx1 ⟨rfl,hbx⟩;have hHX:=hHeld.1.out.below hbx
     skip
     clear hHeld hbx
     go_wp2_with fail
     refine hK.out _ _ (PX.S hHX) (fun hHeld=>?_);clear hK K hHX
     try simp only [pk]
     refine' qt 2 hHeld ?_
     try simp only [pk]
     refine' qt 3 hHeld ?_
     try simp only [pk]
     refine' qt 4 hHeld ?_
     try simp only [pk]
     refine' qt 5 hHeld ?_
     try simp only [pk]
     refine qp 6 fun K hK=>?_;go_simp;refine (of_c ⟨#[35]⟩ _).mono ?_;rintro r wx2 ⟨B1,rfl,hv1,hbx⟩;have hHX:=hHeld.1.out.below hbx
     skip
     clear hHeld hbx
     go_wp2_with fail
     refine hK.out _ _ (PX.S hHX) (fun hHeld=>?_);clear hK K hHX
     try simp only [pk]
     refine qp 7 fun K hK=>?_;go_simp;refine (of_c ⟨#[48,49,50,51,52,53,54,55,56,57]⟩ _).mono ?_;rintro r wx3 ⟨B2,rfl,hv2,hbx⟩;have hHX:=hHeld.1.out.below hbx;have hv1:=hv1.below hbx;clear hHeld hbx
     go_wp2_with fail
     refine hK.out _ _ (PX.S hHX) (fun hHeld=>?_);clear hK K hHX
     try simp only [pk]
     refine qp 8 fun K hK=>?_;go_simp;refine hK.out _ _ (PX.S (hHeld.1.out.below (qA2 _ _))) (fun hHeld=>?_);clear hK K
     try simp only [pk]
     refine qp 9 fun K hK=>?_;go_simp;refine (H1.out _ _ _ hv1 hv2).mono ?_;rintro r wx4 ⟨rfl,hbx⟩;have hHX:=hHeld.1.out.below hbx
     skip
     clear hHeld hbx
     go_wp2_with fail
     refine hK.out _ _ (PX.S hHX) (fun hHeld=>?_);clear hK K hHX
     try simp only [pk]
     refine' qt 10 hHeld ?_
     try simp only [pk]
     refine qs 11 hHeld ?_
     try simp only [pk]
     refine qs 12 hHeld ?_
     try simp only [pk]
     refine qs 13 hHeld ?_
     try simp only [pk]
     refine qs 14 hHeld ?_
     try simp only [pk]
     refine qs 15 hHeld ?_
     try simp only [pk]
     refine qs 16 hHeld ?_
     try simp only [pk]
     refine' qt 17 hHeld ?_
     try simp only [pk]
     refine' qt 18 hHeld ?_
     try simp only [pk]
     refine' qt 19 hHeld ?_
     try simp only [pk]
     refine wpAnyH_done (by kernel_rfl) ?_ _;obtain ⟨HX,c0,c1,c2,c3,c4,c5,c6⟩:=hHeld
     go_wp2
     go_ret
     rw [HER.out];exact ⟨rfl,Hg.out ▸ HX.out.b⟩
   · rcases b2 with _ | _
     · refine wp_region_held_drew (S:=(fun W:World=>Hid (PX w W g m sc ex wh fr pt ba)∧W.cell? ⟨g,0,none⟩=some (.string m)∧W.cell? ⟨g,1,none⟩=some (.bool sc)∧W.cell? ⟨g,2,none⟩=some (.string ex)∧W.cell? ⟨g,3,none⟩=some (.string wh)∧W.cell? ⟨g,4,none⟩=some (.string fr)∧W.cell? ⟨g,5,none⟩=some (.bool pt)∧W.cell? ⟨g,6,none⟩=some (.string ba))) (by kernel_rfl) (PX.S HX.out.drew) (fun hHeld=>?_)
       clear HX c0 c1 c2 c3 c4 c5 c6;refine' qt 0 hHeld ?_
       try simp only [pk]
       refine qp 1 fun K hK=>?_;go_simp;refine (HCT.out _ hHeld.1.out.mw).mono ?_;rintro r wx1 ⟨rfl,hbx⟩;have hHX:=hHeld.1.out.below hbx
       skip
       clear hHeld hbx
       go_wp2_with fail
       refine hK.out _ _ (PX.S hHX) (fun hHeld=>?_);clear hK K hHX
       try simp only [pk]
       refine' qt 2 hHeld ?_
       try simp only [pk]
       refine' qt 3 hHeld ?_
       try simp only [pk]
       refine' qt 4 hHeld ?_
       try simp only [pk]
       refine' qt 5 hHeld ?_
       try simp only [pk]
       refine qp 6 fun K hK=>?_;go_simp;refine (of_c ⟨#[35]⟩ _).mono ?_;rintro r wx2 ⟨B1,rfl,hv1,hbx⟩;have hHX:=hHeld.1.out.below hbx
       skip
       clear hHeld hbx
       go_wp2_with fail
       refine hK.out _ _ (PX.S hHX) (fun hHeld=>?_);clear hK K hHX
       try simp only [pk]
       refine qp 7 fun K hK=>?_;go_simp;refine (of_c ⟨#[48,49,50,51,52,53,54,55,56,57]⟩ _).mono ?_;rintro r wx3 ⟨B2,rfl,hv2,hbx⟩;have hHX:=hHeld.1.out.below hbx;have hv1:=hv1.below hbx;clear hHeld hbx
       go_wp2_with fail
       refine hK.out _ _ (PX.S hHX) (fun hHeld=>?_);clear hK K hHX
       try simp only [pk]
       refine qp 8 fun K hK=>?_;go_simp;refine hK.out _ _ (PX.S (hHeld.1.out.below (qA2 _ _))) (fun hHeld=>?_);clear hK K
       try simp only [pk]
       refine qp 9 fun K hK=>?_;go_simp;refine (H1.out _ _ _ hv1 hv2).mono ?_;rintro r wx4 ⟨rfl,hbx⟩;have hHX:=hHeld.1.out.below hbx
       skip
       clear hHeld hbx
       go_wp2_with fail
       refine hK.out _ _ (PX.S hHX) (fun hHeld=>?_);clear hK K hHX
       try simp only [pk]
       refine' qt 10 hHeld ?_
       try simp only [pk]
       refine' qt 11 hHeld ?_
       try simp only [pk]
       refine' qt 12 hHeld ?_
       try simp only [pk]
       refine qp 13 fun K hK=>?_;go_simp;refine (of_c ⟨#[48,49,50,51,52,53,54,55,56,57]⟩ _).mono ?_;rintro r wx5 ⟨B3,rfl,hv3,hbx⟩;have hHX:=hHeld.1.out.below hbx
       skip
       clear hHeld hbx
       go_wp2_with fail
       refine hK.out _ _ (PX.S hHX) (fun hHeld=>?_);clear hK K hHX
       try simp only [pk]
       refine qp 14 fun K hK=>?_;go_simp;refine (of_c ⟨#[35]⟩ _).mono ?_;rintro r wx6 ⟨B4,rfl,hv4,hbx⟩;have hHX:=hHeld.1.out.below hbx;have hv3:=hv3.below hbx;clear hHeld hbx
       go_wp2_with fail
       refine hK.out _ _ (PX.S hHX) (fun hHeld=>?_);clear hK K hHX
       try simp only [pk]
       refine qp 15 fun K hK=>?_;go_simp;refine hK.out _ _ (PX.S (hHeld.1.out.below (qA2 _ _))) (fun hHeld=>?_);clear hK K
       try simp only [pk]
       refine qp 16 fun K hK=>?_;go_simp;refine (H2.out _ _ _ hv3 hv4).mono ?_;rintro r wx7 ⟨rfl,hbx⟩;have hHX:=hHeld.1.out.below hbx
       skip
       clear hHeld hbx
       go_wp2_with fail
       refine hK.out _ _ (PX.S hHX) (fun hHeld=>?_);clear hK K hHX
       try simp only [pk]
       refine' qt 17 hHeld ?_
       try simp only [pk]
       refine' qt 18 hHeld ?_
       try simp only [pk]
       refine' qt 19 hHeld ?_
       try simp only [pk]
       refine wpAnyH_done (by kernel_rfl) ?_ _;obtain ⟨HX,c0,c1,c2,c3,c4,c5,c6⟩:=hHeld
       go_wp2
       go_ret
       rw [HER.out];exact ⟨rfl,Hg.out ▸ HX.out.b⟩
     · refine wp_region_held_drew (S:=(fun W:World=>Hid (PX w W g m sc ex wh fr pt ba)∧W.cell? ⟨g,0,none⟩=some (.string m)∧W.cell? ⟨g,1,none⟩=some (.bool sc)∧W.cell? ⟨g,2,none⟩=some (.string ex)∧W.cell? ⟨g,3,none⟩=some (.string wh)∧W.cell? ⟨g,4,none⟩=some (.string fr)∧W.cell? ⟨g,5,none⟩=some (.bool pt)∧W.cell? ⟨g,6,none⟩=some (.string ba))) (by kernel_rfl) (PX.S HX.out.drew) (fun hHeld=>?_)
       clear HX c0 c1 c2 c3 c4 c5 c6;refine' qt 0 hHeld ?_
       try simp only [pk]
       refine qp 1 fun K hK=>?_;go_simp;refine (HCT.out _ hHeld.1.out.mw).mono ?_;rintro r wx1 ⟨rfl,hbx⟩;have hHX:=hHeld.1.out.below hbx
       skip
       clear hHeld hbx
       go_wp2_with fail
       refine hK.out _ _ (PX.S hHX) (fun hHeld=>?_);clear hK K hHX
       try simp only [pk]
       refine' qt 2 hHeld ?_
       try simp only [pk]
       refine' qt 3 hHeld ?_
       try simp only [pk]
       refine' qt 4 hHeld ?_
       try simp only [pk]
       refine' qt 5 hHeld ?_
       try simp only [pk]
       refine qp 6 fun K hK=>?_;go_simp;refine (of_c ⟨#[35]⟩ _).mono ?_;rintro r wx2 ⟨B1,rfl,hv1,hbx⟩;have hHX:=hHeld.1.out.below hbx
       skip
       clear hHeld hbx
       go_wp2_with fail
       refine hK.out _ _ (PX.S hHX) (fun hHeld=>?_);clear hK K hHX
       try simp only [pk]
       refine qp 7 fun K hK=>?_;go_simp;refine (of_c ⟨#[48,49,50,51,52,53,54,55,56,57]⟩ _).mono ?_;rintro r wx3 ⟨B2,rfl,hv2,hbx⟩;have hHX:=hHeld.1.out.below hbx;have hv1:=hv1.below hbx;clear hHeld hbx
       go_wp2_with fail
       refine hK.out _ _ (PX.S hHX) (fun hHeld=>?_);clear hK K hHX
       try simp only [pk]
       refine qp 8 fun K hK=>?_;go_simp;refine hK.out _ _ (PX.S (hHeld.1.out.below (qA2 _ _))) (fun hHeld=>?_);clear hK K
       try simp only [pk]
       refine qp 9 fun K hK=>?_;go_simp;refine (H1.out _ _ _ hv1 hv2).mono ?_;rintro r wx4 ⟨rfl,hbx⟩;have hHX:=hHeld.1.out.below hbx
       skip
       clear hHeld hbx
       go_wp2_with fail
       refine hK.out _ _ (PX.S hHX) (fun hHeld=>?_);clear hK K hHX
       try simp only [pk]
       refine' qt 10 hHeld ?_
       try simp only [pk]
       refine' qt 11 hHeld ?_
       try simp only [pk]
       refine' qt 12 hHeld ?_
       try simp only [pk]
       refine qp 13 fun K hK=>?_;go_simp;refine (of_c ⟨#[48,49,50,51,52,53,54,55,56,57]⟩ _).mono ?_;rintro r wx5 ⟨B3,rfl,hv3,hbx⟩;have hHX:=hHeld.1.out.below hbx
       skip
       clear hHeld hbx
       go_wp2_with fail
       refine hK.out _ _ (PX.S hHX) (fun hHeld=>?_);clear hK K hHX
       try simp only [pk]
       refine qp 14 fun K hK=>?_;go_simp;refine (of_c ⟨#[35]⟩ _).mono ?_;rintro r wx6 ⟨B4,rfl,hv4,hbx⟩;have hHX:=hHeld.1.out.below hbx;have hv3:=hv3.below hbx;clear hHeld hbx
       go_wp2_with fail
       refine hK.out _ _ (PX.S hHX) (fun hHeld=>?_);clear hK K hHX
       try simp only [pk]
       refine qp 15 fun K hK=>?_;go_simp;refine hK.out _ _ (PX.S (hHeld.1.out.below (qA2 _ _))) (fun hHeld=>?_);clear hK K
       try simp only [pk]
       refine qp 16 fun K hK=>?_;go_simp;refine (H2.out _ _ _ hv3 hv4).mono ?_;rintro r wx7 ⟨rfl,hbx⟩;have hHX:=hHeld.1.out.below hbx
       skip
       clear hHeld hbx
       go_wp2_with fail
       refine hK.out _ _ (PX.S hHX) (fun hHeld=>?_);clear hK K hHX
       try simp only [pk]
       refine' qt 17 hHeld ?_
       try simp only [pk]
       refine' qt 18 hHeld ?_
       try simp only [pk]
       refine' qt 19 hHeld ?_
       try simp only [pk]
       refine wpAnyH_done (by kernel_rfl) ?_ _;obtain ⟨HX,c0,c1,c2,c3,c4,c5,c6⟩:=hHeld
       go_wp2
       go_ret
       rw [HER.out];exact ⟨rfl,Hg.out ▸ HX.out.b⟩
 · refine wp_region_held_drew (S:=(fun W:World=>Hid (PX w W g m sc ex wh fr pt ba)∧W.cell? ⟨g,0,none⟩=some (.string m)∧W.cell? ⟨g,1,none⟩=some (.bool sc)∧W.cell? ⟨g,2,none⟩=some (.string ex)∧W.cell? ⟨g,3,none⟩=some (.string wh)∧W.cell? ⟨g,4,none⟩=some (.string fr)∧W.cell? ⟨g,5,none⟩=some (.bool pt)∧W.cell? ⟨g,6,none⟩=some (.string ba))) (by kernel_rfl) (PX.S HX.out.drew) (fun hHeld=>?_)
   clear HX c0 c1 c2 c3 c4 c5 c6;refine' qt 0 hHeld ?_
   try simp only [pk]
   refine qp 1 fun K hK=>?_;go_simp;refine (HCT.out _ hHeld.1.out.mw).mono ?_;rintro r wx1 ⟨rfl,hbx⟩;have hHX:=hHeld.1.out.below hbx
   skip
   clear hHeld hbx
   go_wp2_with fail
   refine hK.out _ _ (PX.S hHX) (fun hHeld=>?_);clear hK K hHX
   try simp only [pk]
   refine' qt 2 hHeld ?_
   try simp only [pk]
   refine' qt 3 hHeld ?_
   try simp only [pk]
   refine qs 4 hHeld ?_
   try simp only [pk]
   refine qs 5 hHeld ?_
   try simp only [pk]
   refine qs 6 hHeld ?_
   try simp only [pk]
   refine qs 7 hHeld ?_
   try simp only [pk]
   refine qs 8 hHeld ?_
   try simp only [pk]
   refine qs 9 hHeld ?_
   try simp only [pk]
   refine qs 10 hHeld ?_
   try simp only [pk]
   refine qs 11 hHeld ?_
   try simp only [pk]
   refine qs 12 hHeld ?_
   try simp only [pk]
   refine qs 13 hHeld ?_
   try simp only [pk]
   refine qs 14 hHeld ?_
   try simp only [pk]
   refine qs 15 hHeld ?_
   try simp only [pk]
   refine qs 16 hHeld ?_
   try simp only [pk]
   refine qs 17 hHeld ?_
   try simp only [pk]
   refine qs 18 hHeld ?_
   try simp only [pk]
   refine' qt 19 hHeld ?_
   try simp only [pk]
   refine wpAnyH_done (by kernel_rfl) ?_ _;obtain ⟨HX,c0,c1,c2,c3,c4,c5,c6⟩:=hHeld
   go_wp2
   go_ret
   rw [HER.out];exact ⟨rfl,Hg.out ▸ HX.out.b⟩
set_option maxHeartbeats 4000000 in
theorem er7_c (m:ByteArray) (sc:Bool) (ex wh fr:ByteArray) (pt:Bool) (ba:ByteArray) (w:World) (hM:Mw w) :
 Calls Tryz.prog 187 #[.agg (ptV m sc ex wh fr pt ba)] w fun e w'=>e=.returned (.int .i64 ((er7 ⟨bts m,sc,bts ex,bts wh,bts fr,pt,bts ba⟩:Nat):Int))∧Below w.heap.size w w':=by
 have HX:=hid (PX.new (m:=m) (sc:=sc) (ex:=ex) (wh:=wh) (fr:=fr) (pt:=pt) (ba:=ba) hM)
 obtain ⟨c0,c1,c2,c3,c4,c5,c6⟩:=HX.out.cells
 clear hM
 generalize hW:w.alloc (.cells (ptV m sc ex wh fr pt ba) 156)=W at *
 have HW:=hid hW
 clear hW
 generalize hg:w.heap.size=g at *
 have Hg:=hid hg
 clear hg
 have HER:=hid (show er7 ⟨bts m,sc,bts ex,bts wh,bts fr,pt,bts ba⟩=if (bts m).any (inS8 ⟨#[49,50,51,52,53,54,55,56,57]⟩) && ((bts fr).any (inS8 ⟨#[35]⟩) || sc) then 6 else 0 by rw [in_ab,in_h35]; rfl)
 have H1:=hid (fun w v hv=>qH0 ⟨#[49,50,51,52,53,54,55,56,57]⟩ m v w (qBY rfl) (by decide) hv)
 have H2:=hid (fun w v hv=>qH0 ⟨#[35]⟩ fr v w (qBY rfl) (by decide) hv)
 generalize er7 ⟨bts m,sc,bts ex,bts wh,bts fr,pt,bts ba⟩=E at *
 generalize (bts m).any (inS8 ⟨#[49,50,51,52,53,54,55,56,57]⟩)=b1 at *
 generalize (bts fr).any (inS8 ⟨#[35]⟩)=b2 at *
 go_enter Tryz.func187,Tryz.ntmps187
 go_upto_region 1 with fail
 rw [HW.out,Hg.out]
 rcases b1 with _ | _
 · refine wp_region_held_drew (S:=(fun W:World=>Hid (PX w W g m sc ex wh fr pt ba)∧W.cell? ⟨g,0,none⟩=some (.string m)∧W.cell? ⟨g,1,none⟩=some (.bool sc)∧W.cell? ⟨g,2,none⟩=some (.string ex)∧W.cell? ⟨g,3,none⟩=some (.string wh)∧W.cell? ⟨g,4,none⟩=some (.string fr)∧W.cell? ⟨g,5,none⟩=some (.bool pt)∧W.cell? ⟨g,6,none⟩=some (.string ba))) (by kernel_rfl) (PX.S HX.out.drew) (fun hHeld=>?_)
   clear HX c0 c1 c2 c3 c4 c5 c6;refine' qt 0 hHeld ?_
   try simp only [pk]
   refine' qt 1 hHeld ?_
   try simp only [pk]
   refine qp 2 fun K hK=>?_;go_simp;refine (of_c ⟨#[49,50,51,52,53,54,55,56,57]⟩ _).mono ?_;rintro r wx1 ⟨B1,rfl,hv1,hbx⟩;have hHX:=hHeld.1.out.below hbx
   skip
   clear hHeld hbx
   go_wp2_with fail
   refine hK.out _ _ (PX.S hHX) (fun hHeld=>?_);clear hK K hHX
   try simp only [pk]
   refine qp 3 fun K hK=>?_;go_simp;refine (H1.out _ _ hv1).mono ?_;rintro r wx2 ⟨rfl,hbx⟩;have hHX:=hHeld.1.out.below hbx
   skip
   clear hHeld hbx
   go_wp2_with fail
   refine hK.out _ _ (PX.S hHX) (fun hHeld=>?_);clear hK K hHX
   try simp only [pk]
   refine' qt 4 hHeld ?_
   try simp only [pk]
   refine qs 5 hHeld ?_
   try simp only [pk]
   refine qs 6 hHeld ?_
   try simp only [pk]
   refine qs 7 hHeld ?_
   try simp only [pk]
   refine qs 8 hHeld ?_
   try simp only [pk]
   refine qs 9 hHeld ?_
   try simp only [pk]
   refine qs 10 hHeld ?_
   try simp only [pk]
   refine qs 11 hHeld ?_
   try simp only [pk]
   refine qs 12 hHeld ?_
   try simp only [pk]
   refine' qt 13 hHeld ?_
   try simp only [pk]
   refine wpAnyH_done (by kernel_rfl) ?_ _;obtain ⟨HX,c0,c1,c2,c3,c4,c5,c6⟩:=hHeld
   go_wp2
   go_ret
   rw [HER.out];exact ⟨rfl,Hg.out ▸ HX.out.b⟩
 · rcases b2 with _ | _
   · rcases sc with _ | _
     · refine wp_region_held_drew (S:=(fun W:World=>Hid (PX w W g m false ex wh fr pt ba)∧W.cell? ⟨g,0,none⟩=some (.string m)∧W.cell? ⟨g,1,none⟩=some (.bool false)∧W.cell? ⟨g,2,none⟩=some (.string ex)∧W.cell? ⟨g,3,none⟩=some (.string wh)∧W.cell? ⟨g,4,none⟩=some (.string fr)∧W.cell? ⟨g,5,none⟩=some (.bool pt)∧W.cell? ⟨g,6,none⟩=some (.string ba))) (by kernel_rfl) (PX.S HX.out.drew) (fun hHeld=>?_)
       clear HX c0 c1 c2 c3 c4 c5 c6;refine' qt 0 hHeld ?_
       try simp only [pk]
       refine' qt 1 hHeld ?_
       try simp only [pk]
       refine qp 2 fun K hK=>?_;go_simp;refine (of_c ⟨#[49,50,51,52,53,54,55,56,57]⟩ _).mono ?_;rintro r wx1 ⟨B1,rfl,hv1,hbx⟩;have hHX:=hHeld.1.out.below hbx
       skip
       clear hHeld hbx
       go_wp2_with fail
       refine hK.out _ _ (PX.S hHX) (fun hHeld=>?_);clear hK K hHX
       try simp only [pk]
       refine qp 3 fun K hK=>?_;go_simp;refine (H1.out _ _ hv1).mono ?_;rintro r wx2 ⟨rfl,hbx⟩;have hHX:=hHeld.1.out.below hbx
       skip
       clear hHeld hbx
       go_wp2_with fail
       refine hK.out _ _ (PX.S hHX) (fun hHeld=>?_);clear hK K hHX
       try simp only [pk]
       refine' qt 4 hHeld ?_
       try simp only [pk]
       refine' qt 5 hHeld ?_
       try simp only [pk]
       refine' qt 6 hHeld ?_
       try simp only [pk]
       refine qp 7 fun K hK=>?_;go_simp;refine (of_c ⟨#[35]⟩ _).mono ?_;rintro r wx3 ⟨B2,rfl,hv2,hbx⟩;have hHX:=hHeld.1.out.below hbx
       skip
       clear hHeld hbx
       go_wp2_with fail
       refine hK.out _ _ (PX.S hHX) (fun hHeld=>?_);clear hK K hHX
       try simp only [pk]
       refine qp 8 fun K hK=>?_;go_simp;refine (H2.out _ _ hv2).mono ?_;rintro r wx4 ⟨rfl,hbx⟩;have hHX:=hHeld.1.out.below hbx
       skip
       clear hHeld hbx
       go_wp2_with fail
       refine hK.out _ _ (PX.S hHX) (fun hHeld=>?_);clear hK K hHX
       try simp only [pk]
       refine' qt 9 hHeld ?_
       try simp only [pk]
       refine' qt 10 hHeld ?_
       try simp only [pk]
       refine' qt 11 hHeld ?_
       try simp only [pk]
       refine' qt 12 hHeld ?_
       try simp only [pk]
       refine' qt 13 hHeld ?_
       try simp only [pk]
       refine wpAnyH_done (by kernel_rfl) ?_ _;obtain ⟨HX,c0,c1,c2,c3,c4,c5,c6⟩:=hHeld
       go_wp2
       go_ret
       rw [HER.out];exact ⟨rfl,Hg.out ▸ HX.out.b⟩
     · refine wp_region_held_drew (S:=(fun W:World=>Hid (PX w W g m true ex wh fr pt ba)∧W.cell? ⟨g,0,none⟩=some (.string m)∧W.cell? ⟨g,1,none⟩=some (.bool true)∧W.cell? ⟨g,2,none⟩=some (.string ex)∧W.cell? ⟨g,3,none⟩=some (.string wh)∧W.cell? ⟨g,4,none⟩=some (.string fr)∧W.cell? ⟨g,5,none⟩=some (.bool pt)∧W.cell? ⟨g,6,none⟩=some (.string ba))) (by kernel_rfl) (PX.S HX.out.drew) (fun hHeld=>?_)
       clear HX c0 c1 c2 c3 c4 c5 c6;refine' qt 0 hHeld ?_
       try simp only [pk]
       refine' qt 1 hHeld ?_
       try simp only [pk]
       refine qp 2 fun K hK=>?_;go_simp;refine (of_c ⟨#[49,50,51,52,53,54,55,56,57]⟩ _).mono ?_;rintro r wx1 ⟨B1,rfl,hv1,hbx⟩;have hHX:=hHeld.1.out.below hbx
       skip
       clear hHeld hbx
       go_wp2_with fail
       refine hK.out _ _ (PX.S hHX) (fun hHeld=>?_);clear hK K hHX
       try simp only [pk]
       refine qp 3 fun K hK=>?_;go_simp;refine (H1.out _ _ hv1).mono ?_;rintro r wx2 ⟨rfl,hbx⟩;have hHX:=hHeld.1.out.below hbx
       skip
       clear hHeld hbx
       go_wp2_with fail
       refine hK.out _ _ (PX.S hHX) (fun hHeld=>?_);clear hK K hHX
       try simp only [pk]
       refine' qt 4 hHeld ?_
       try simp only [pk]
       refine' qt 5 hHeld ?_
       try simp only [pk]
       refine' qt 6 hHeld ?_
       try simp only [pk]
       refine qp 7 fun K hK=>?_;go_simp;refine (of_c ⟨#[35]⟩ _).mono ?_;rintro r wx3 ⟨B2,rfl,hv2,hbx⟩;have hHX:=hHeld.1.out.below hbx
       skip
       clear hHeld hbx
       go_wp2_with fail
       refine hK.out _ _ (PX.S hHX) (fun hHeld=>?_);clear hK K hHX
       try simp only [pk]
       refine qp 8 fun K hK=>?_;go_simp;refine (H2.out _ _ hv2).mono ?_;rintro r wx4 ⟨rfl,hbx⟩;have hHX:=hHeld.1.out.below hbx
       skip
       clear hHeld hbx
       go_wp2_with fail
       refine hK.out _ _ (PX.S hHX) (fun hHeld=>?_);clear hK K hHX
       try simp only [pk]
       refine' qt 9 hHeld ?_
       try simp only [pk]
       refine' qt 10 hHeld ?_
       try simp only [pk]
       refine' qt 11 hHeld ?_
       try simp only [pk]
       refine' qt 12 hHeld ?_
       try simp only [pk]
       refine' qt 13 hHeld ?_
       try simp only [pk]
       refine wpAnyH_done (by kernel_rfl) ?_ _;obtain ⟨HX,c0,c1,c2,c3,c4,c5,c6⟩:=hHeld
       go_wp2
       go_ret
       rw [HER.out];exact ⟨rfl,Hg.out ▸ HX.out.b⟩
   · refine wp_region_held_drew (S:=(fun W:World=>Hid (PX w W g m sc ex wh fr pt ba)∧W.cell? ⟨g,0,none⟩=some (.string m)∧W.cell? ⟨g,1,none⟩=some (.bool sc)∧W.cell? ⟨g,2,none⟩=some (.string ex)∧W.cell? ⟨g,3,none⟩=some (.string wh)∧W.cell? ⟨g,4,none⟩=some (.string fr)∧W.cell? ⟨g,5,none⟩=some (.bool pt)∧W.cell? ⟨g,6,none⟩=some (.string ba))) (by kernel_rfl) (PX.S HX.out.drew) (fun hHeld=>?_)
     clear HX c0 c1 c2 c3 c4 c5 c6;refine' qt 0 hHeld ?_
     try simp only [pk]
     refine' qt 1 hHeld ?_
     try simp only [pk]
     refine qp 2 fun K hK=>?_;go_simp;refine (of_c ⟨#[49,50,51,52,53,54,55,56,57]⟩ _).mono ?_;rintro r wx1 ⟨B1,rfl,hv1,hbx⟩;have hHX:=hHeld.1.out.below hbx
     skip
     clear hHeld hbx
     go_wp2_with fail
     refine hK.out _ _ (PX.S hHX) (fun hHeld=>?_);clear hK K hHX
     try simp only [pk]
     refine qp 3 fun K hK=>?_;go_simp;refine (H1.out _ _ hv1).mono ?_;rintro r wx2 ⟨rfl,hbx⟩;have hHX:=hHeld.1.out.below hbx
     skip
     clear hHeld hbx
     go_wp2_with fail
     refine hK.out _ _ (PX.S hHX) (fun hHeld=>?_);clear hK K hHX
     try simp only [pk]
     refine' qt 4 hHeld ?_
     try simp only [pk]
     refine' qt 5 hHeld ?_
     try simp only [pk]
     refine' qt 6 hHeld ?_
     try simp only [pk]
     refine qp 7 fun K hK=>?_;go_simp;refine (of_c ⟨#[35]⟩ _).mono ?_;rintro r wx3 ⟨B2,rfl,hv2,hbx⟩;have hHX:=hHeld.1.out.below hbx
     skip
     clear hHeld hbx
     go_wp2_with fail
     refine hK.out _ _ (PX.S hHX) (fun hHeld=>?_);clear hK K hHX
     try simp only [pk]
     refine qp 8 fun K hK=>?_;go_simp;refine (H2.out _ _ hv2).mono ?_;rintro r wx4 ⟨rfl,hbx⟩;have hHX:=hHeld.1.out.below hbx
     skip
     clear hHeld hbx
     go_wp2_with fail
     refine hK.out _ _ (PX.S hHX) (fun hHeld=>?_);clear hK K hHX
     try simp only [pk]
     refine' qt 9 hHeld ?_
     try simp only [pk]
     refine qs 10 hHeld ?_
     try simp only [pk]
     refine qs 11 hHeld ?_
     try simp only [pk]
     refine' qt 12 hHeld ?_
     try simp only [pk]
     refine' qt 13 hHeld ?_
     try simp only [pk]
     refine wpAnyH_done (by kernel_rfl) ?_ _;obtain ⟨HX,c0,c1,c2,c3,c4,c5,c6⟩:=hHeld
     go_wp2
     go_ret
     rw [HER.out];exact ⟨rfl,Hg.out ▸ HX.out.b⟩
set_option maxHeartbeats 4000000 in
theorem er8_c (m:ByteArray) (sc:Bool) (ex wh fr:ByteArray) (pt:Bool) (ba:ByteArray) (w:World) (hM:Mw w) :
 Calls Tryz.prog 188 #[.agg (ptV m sc ex wh fr pt ba)] w fun e w'=>e=.returned (.int .i64 ((er8 ⟨bts m,sc,bts ex,bts wh,bts fr,pt,bts ba⟩:Nat):Int))∧Below w.heap.size w w':=by
 have HX:=hid (PX.new (m:=m) (sc:=sc) (ex:=ex) (wh:=wh) (fr:=fr) (pt:=pt) (ba:=ba) hM)
 obtain ⟨c0,c1,c2,c3,c4,c5,c6⟩:=HX.out.cells
 clear hM
 generalize hW:w.alloc (.cells (ptV m sc ex wh fr pt ba) 156)=W at *
 have HW:=hid hW
 clear hW
 generalize hg:w.heap.size=g at *
 have Hg:=hid hg
 clear hg
 have HER:=hid (show er8 ⟨bts m,sc,bts ex,bts wh,bts fr,pt,bts ba⟩=if sc && ((bts wh).any (inS8 ⟨#[44]⟩) || (cntd ⟨bts m,sc,bts ex,bts wh,bts fr,pt,bts ba⟩ && decide ((bts wh).head? = some 35))) then 6 else 0 by rw [in_44]; rfl)
 have HCT:=hid (fun W (h:Mw W)=>cntd_c m sc ex wh fr pt ba W h)
 have HH:=hid (fun w v hv=>qH0 ⟨#[44]⟩ wh v w (qBY rfl) (by decide) hv)
 have HP:Hid (∀ W,Calls Tryz.prog 171 #[.string wh,.string ⟨#[35]⟩] W fun e w'=>e=.returned (.bool (decide ((bts wh).head? = some 35)))∧W=w'):=hid (fun W=>qFS wh 35 W)
 generalize er8 ⟨bts m,sc,bts ex,bts wh,bts fr,pt,bts ba⟩=E at *
 generalize cntd ⟨bts m,sc,bts ex,bts wh,bts fr,pt,bts ba⟩=bc at *
 generalize (bts wh).any (inS8 ⟨#[44]⟩)=b1 at *
 generalize decide ((bts wh).head? = some 35)=b2 at *
 go_enter Tryz.func188,Tryz.ntmps188
 go_upto_region 1 with fail
 rw [HW.out,Hg.out]
 rcases sc with _ | _
 · refine wp_region_held_drew (S:=(fun W:World=>Hid (PX w W g m false ex wh fr pt ba)∧W.cell? ⟨g,0,none⟩=some (.string m)∧W.cell? ⟨g,1,none⟩=some (.bool false)∧W.cell? ⟨g,2,none⟩=some (.string ex)∧W.cell? ⟨g,3,none⟩=some (.string wh)∧W.cell? ⟨g,4,none⟩=some (.string fr)∧W.cell? ⟨g,5,none⟩=some (.bool pt)∧W.cell? ⟨g,6,none⟩=some (.string ba))) (by kernel_rfl) (PX.S HX.out.drew) (fun hHeld=>?_)
   clear HX c0 c1 c2 c3 c4 c5 c6;refine' qt 0 hHeld ?_
   try simp only [pk]
   refine' qt 1 hHeld ?_
   try simp only [pk]
   refine' qt 2 hHeld ?_
   try simp only [pk]
   refine qs 3 hHeld ?_
   try simp only [pk]
   refine qs 4 hHeld ?_
   try simp only [pk]
   refine qs 5 hHeld ?_
   try simp only [pk]
   refine qs 6 hHeld ?_
   try simp only [pk]
   refine qs 7 hHeld ?_
   try simp only [pk]
   refine qs 8 hHeld ?_
   try simp only [pk]
   refine qs 9 hHeld ?_
   try simp only [pk]
   refine qs 10 hHeld ?_
   try simp only [pk]
   refine qs 11 hHeld ?_
   try simp only [pk]
   refine qs 12 hHeld ?_
   try simp only [pk]
   refine qs 13 hHeld ?_
   try simp only [pk]
   refine qs 14 hHeld ?_
   try simp only [pk]
   refine qs 15 hHeld ?_
   try simp only [pk]
   refine' qt 16 hHeld ?_
   try simp only [pk]
   refine wpAnyH_done (by kernel_rfl) ?_ _;obtain ⟨HX,c0,c1,c2,c3,c4,c5,c6⟩:=hHeld
   go_wp2
   go_ret
   rw [HER.out];exact ⟨rfl,Hg.out ▸ HX.out.b⟩
 · rcases b1 with _ | _
   · rcases bc with _ | _
     · refine wp_region_held_drew (S:=(fun W:World=>Hid (PX w W g m true ex wh fr pt ba)∧W.cell? ⟨g,0,none⟩=some (.string m)∧W.cell? ⟨g,1,none⟩=some (.bool true)∧W.cell? ⟨g,2,none⟩=some (.string ex)∧W.cell? ⟨g,3,none⟩=some (.string wh)∧W.cell? ⟨g,4,none⟩=some (.string fr)∧W.cell? ⟨g,5,none⟩=some (.bool pt)∧W.cell? ⟨g,6,none⟩=some (.string ba))) (by kernel_rfl) (PX.S HX.out.drew) (fun hHeld=>?_)
       clear HX c0 c1 c2 c3 c4 c5 c6;refine' qt 0 hHeld ?_
       try simp only [pk]
       refine' qt 1 hHeld ?_
       try simp only [pk]
       refine' qt 2 hHeld ?_
       try simp only [pk]
       refine' qt 3 hHeld ?_
       try simp only [pk]
       refine' qt 4 hHeld ?_
       try simp only [pk]
       refine qp 5 fun K hK=>?_;go_simp;refine (of_c ⟨#[44]⟩ _).mono ?_;rintro r wx1 ⟨B1,rfl,hv1,hbx⟩;have hHX:=hHeld.1.out.below hbx
       skip
       clear hHeld hbx
       go_wp2_with fail
       refine hK.out _ _ (PX.S hHX) (fun hHeld=>?_);clear hK K hHX
       try simp only [pk]
       refine qp 6 fun K hK=>?_;go_simp;refine (HH.out _ _ hv1).mono ?_;rintro r wx2 ⟨rfl,hbx⟩;have hHX:=hHeld.1.out.below hbx
       skip
       clear hHeld hbx
       go_wp2_with fail
       refine hK.out _ _ (PX.S hHX) (fun hHeld=>?_);clear hK K hHX
       try simp only [pk]
       refine' qt 7 hHeld ?_
       try simp only [pk]
       refine' qt 8 hHeld ?_
       try simp only [pk]
       refine qp 9 fun K hK=>?_;go_simp;refine (HCT.out _ hHeld.1.out.mw).mono ?_;rintro r wx3 ⟨rfl,hbx⟩;have hHX:=hHeld.1.out.below hbx
       skip
       clear hHeld hbx
       go_wp2_with fail
       refine hK.out _ _ (PX.S hHX) (fun hHeld=>?_);clear hK K hHX
       try simp only [pk]
       refine' qt 10 hHeld ?_
       try simp only [pk]
       refine qs 11 hHeld ?_
       try simp only [pk]
       refine qs 12 hHeld ?_
       try simp only [pk]
       refine qs 13 hHeld ?_
       try simp only [pk]
       refine' qt 14 hHeld ?_
       try simp only [pk]
       refine' qt 15 hHeld ?_
       try simp only [pk]
       refine' qt 16 hHeld ?_
       try simp only [pk]
       refine wpAnyH_done (by kernel_rfl) ?_ _;obtain ⟨HX,c0,c1,c2,c3,c4,c5,c6⟩:=hHeld
       go_wp2
       go_ret
       rw [HER.out];exact ⟨rfl,Hg.out ▸ HX.out.b⟩
     · rcases b2 with _ | _
       · refine wp_region_held_drew (S:=(fun W:World=>Hid (PX w W g m true ex wh fr pt ba)∧W.cell? ⟨g,0,none⟩=some (.string m)∧W.cell? ⟨g,1,none⟩=some (.bool true)∧W.cell? ⟨g,2,none⟩=some (.string ex)∧W.cell? ⟨g,3,none⟩=some (.string wh)∧W.cell? ⟨g,4,none⟩=some (.string fr)∧W.cell? ⟨g,5,none⟩=some (.bool pt)∧W.cell? ⟨g,6,none⟩=some (.string ba))) (by kernel_rfl) (PX.S HX.out.drew) (fun hHeld=>?_)
         clear HX c0 c1 c2 c3 c4 c5 c6;refine' qt 0 hHeld ?_
         try simp only [pk]
         refine' qt 1 hHeld ?_
         try simp only [pk]
         refine' qt 2 hHeld ?_
         try simp only [pk]
         refine' qt 3 hHeld ?_
         try simp only [pk]
         refine' qt 4 hHeld ?_
         try simp only [pk]
         refine qp 5 fun K hK=>?_;go_simp;refine (of_c ⟨#[44]⟩ _).mono ?_;rintro r wx1 ⟨B1,rfl,hv1,hbx⟩;have hHX:=hHeld.1.out.below hbx
         skip
         clear hHeld hbx
         go_wp2_with fail
         refine hK.out _ _ (PX.S hHX) (fun hHeld=>?_);clear hK K hHX
         try simp only [pk]
         refine qp 6 fun K hK=>?_;go_simp;refine (HH.out _ _ hv1).mono ?_;rintro r wx2 ⟨rfl,hbx⟩;have hHX:=hHeld.1.out.below hbx
         skip
         clear hHeld hbx
         go_wp2_with fail
         refine hK.out _ _ (PX.S hHX) (fun hHeld=>?_);clear hK K hHX
         try simp only [pk]
         refine' qt 7 hHeld ?_
         try simp only [pk]
         refine' qt 8 hHeld ?_
         try simp only [pk]
         refine qp 9 fun K hK=>?_;go_simp;refine (HCT.out _ hHeld.1.out.mw).mono ?_;rintro r wx3 ⟨rfl,hbx⟩;have hHX:=hHeld.1.out.below hbx
         skip
         clear hHeld hbx
         go_wp2_with fail
         refine hK.out _ _ (PX.S hHX) (fun hHeld=>?_);clear hK K hHX
         try simp only [pk]
         refine' qt 10 hHeld ?_
         try simp only [pk]
         refine' qt 11 hHeld ?_
         try simp only [pk]
         refine' qt 12 hHeld ?_
         try simp only [pk]
         refine qp 13 fun K hK=>?_;go_simp;refine (HP.out _).mono ?_;rintro r w1 ⟨rfl,rfl⟩
         go_wp2_with fail
         refine hK.out _ _ hHeld (fun hHeld=>?_);clear hK K
         try simp only [pk]
         refine' qt 14 hHeld ?_
         try simp only [pk]
         refine' qt 15 hHeld ?_
         try simp only [pk]
         refine' qt 16 hHeld ?_
         try simp only [pk]
         refine wpAnyH_done (by kernel_rfl) ?_ _;obtain ⟨HX,c0,c1,c2,c3,c4,c5,c6⟩:=hHeld
         go_wp2
         go_ret
         rw [HER.out];exact ⟨rfl,Hg.out ▸ HX.out.b⟩
       · refine wp_region_held_drew (S:=(fun W:World=>Hid (PX w W g m true ex wh fr pt ba)∧W.cell? ⟨g,0,none⟩=some (.string m)∧W.cell? ⟨g,1,none⟩=some (.bool true)∧W.cell? ⟨g,2,none⟩=some (.string ex)∧W.cell? ⟨g,3,none⟩=some (.string wh)∧W.cell? ⟨g,4,none⟩=some (.string fr)∧W.cell? ⟨g,5,none⟩=some (.bool pt)∧W.cell? ⟨g,6,none⟩=some (.string ba))) (by kernel_rfl) (PX.S HX.out.drew) (fun hHeld=>?_)
         clear HX c0 c1 c2 c3 c4 c5 c6;refine' qt 0 hHeld ?_
         try simp only [pk]
         refine' qt 1 hHeld ?_
         try simp only [pk]
         refine' qt 2 hHeld ?_
         try simp only [pk]
         refine' qt 3 hHeld ?_
         try simp only [pk]
         refine' qt 4 hHeld ?_
         try simp only [pk]
         refine qp 5 fun K hK=>?_;go_simp;refine (of_c ⟨#[44]⟩ _).mono ?_;rintro r wx1 ⟨B1,rfl,hv1,hbx⟩;have hHX:=hHeld.1.out.below hbx
         skip
         clear hHeld hbx
         go_wp2_with fail
         refine hK.out _ _ (PX.S hHX) (fun hHeld=>?_);clear hK K hHX
         try simp only [pk]
         refine qp 6 fun K hK=>?_;go_simp;refine (HH.out _ _ hv1).mono ?_;rintro r wx2 ⟨rfl,hbx⟩;have hHX:=hHeld.1.out.below hbx
         skip
         clear hHeld hbx
         go_wp2_with fail
         refine hK.out _ _ (PX.S hHX) (fun hHeld=>?_);clear hK K hHX
         try simp only [pk]
         refine' qt 7 hHeld ?_
         try simp only [pk]
         refine' qt 8 hHeld ?_
         try simp only [pk]
         refine qp 9 fun K hK=>?_;go_simp;refine (HCT.out _ hHeld.1.out.mw).mono ?_;rintro r wx3 ⟨rfl,hbx⟩;have hHX:=hHeld.1.out.below hbx
         skip
         clear hHeld hbx
         go_wp2_with fail
         refine hK.out _ _ (PX.S hHX) (fun hHeld=>?_);clear hK K hHX
         try simp only [pk]
         refine' qt 10 hHeld ?_
         try simp only [pk]
         refine' qt 11 hHeld ?_
         try simp only [pk]
         refine' qt 12 hHeld ?_
         try simp only [pk]
         refine qp 13 fun K hK=>?_;go_simp;refine (HP.out _).mono ?_;rintro r w1 ⟨rfl,rfl⟩
         go_wp2_with fail
         refine hK.out _ _ hHeld (fun hHeld=>?_);clear hK K
         try simp only [pk]
         refine' qt 14 hHeld ?_
         try simp only [pk]
         refine' qt 15 hHeld ?_
         try simp only [pk]
         refine' qt 16 hHeld ?_
         try simp only [pk]
         refine wpAnyH_done (by kernel_rfl) ?_ _;obtain ⟨HX,c0,c1,c2,c3,c4,c5,c6⟩:=hHeld
         go_wp2
         go_ret
         rw [HER.out];exact ⟨rfl,Hg.out ▸ HX.out.b⟩
   · refine wp_region_held_drew (S:=(fun W:World=>Hid (PX w W g m true ex wh fr pt ba)∧W.cell? ⟨g,0,none⟩=some (.string m)∧W.cell? ⟨g,1,none⟩=some (.bool true)∧W.cell? ⟨g,2,none⟩=some (.string ex)∧W.cell? ⟨g,3,none⟩=some (.string wh)∧W.cell? ⟨g,4,none⟩=some (.string fr)∧W.cell? ⟨g,5,none⟩=some (.bool pt)∧W.cell? ⟨g,6,none⟩=some (.string ba))) (by kernel_rfl) (PX.S HX.out.drew) (fun hHeld=>?_)
     clear HX c0 c1 c2 c3 c4 c5 c6;refine' qt 0 hHeld ?_
     try simp only [pk]
     refine' qt 1 hHeld ?_
     try simp only [pk]
     refine' qt 2 hHeld ?_
     try simp only [pk]
     refine' qt 3 hHeld ?_
     try simp only [pk]
     refine' qt 4 hHeld ?_
     try simp only [pk]
     refine qp 5 fun K hK=>?_;go_simp;refine (of_c ⟨#[44]⟩ _).mono ?_;rintro r wx1 ⟨B1,rfl,hv1,hbx⟩;have hHX:=hHeld.1.out.below hbx
     skip
     clear hHeld hbx
     go_wp2_with fail
     refine hK.out _ _ (PX.S hHX) (fun hHeld=>?_);clear hK K hHX
     try simp only [pk]
     refine qp 6 fun K hK=>?_;go_simp;refine (HH.out _ _ hv1).mono ?_;rintro r wx2 ⟨rfl,hbx⟩;have hHX:=hHeld.1.out.below hbx
     skip
     clear hHeld hbx
     go_wp2_with fail
     refine hK.out _ _ (PX.S hHX) (fun hHeld=>?_);clear hK K hHX
     try simp only [pk]
     refine' qt 7 hHeld ?_
     try simp only [pk]
     refine qs 8 hHeld ?_
     try simp only [pk]
     refine qs 9 hHeld ?_
     try simp only [pk]
     refine qs 10 hHeld ?_
     try simp only [pk]
     refine qs 11 hHeld ?_
     try simp only [pk]
     refine qs 12 hHeld ?_
     try simp only [pk]
     refine qs 13 hHeld ?_
     try simp only [pk]
     refine qs 14 hHeld ?_
     try simp only [pk]
     refine' qt 15 hHeld ?_
     try simp only [pk]
     refine' qt 16 hHeld ?_
     try simp only [pk]
     refine wpAnyH_done (by kernel_rfl) ?_ _;obtain ⟨HX,c0,c1,c2,c3,c4,c5,c6⟩:=hHeld
     go_wp2
     go_ret
     rw [HER.out];exact ⟨rfl,Hg.out ▸ HX.out.b⟩
end Go.Proofs.YtnoeonaajefajaaGreatDoor
