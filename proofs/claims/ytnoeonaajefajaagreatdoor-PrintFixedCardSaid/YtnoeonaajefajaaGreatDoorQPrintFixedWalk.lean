import Derived.Test.YtnoeonaajefajaaGreatDoorQZF
import Derived.Test.YtnoeonaajefajaaGreatDoorQZM
set_option linter.all false
set_option maxRecDepth 100000
set_option linter.unusedVariables false
namespace Go.Proofs.YtnoeonaajefajaaGreatDoor
open Go.RowKit
open Lib (hid)
set_option maxHeartbeats 8000000 in
theorem qIJ (s:ByteArray) (w:World) (hs:s.size≤9223372036854775807) (hM:Mw w):Calls Tryz.prog 4 #[.string s] w fun e w'=>e=.returned (.bool true)∧Below w.heap.size w w':=by
 have HA:=hid (fun W (h:Mw W)=>qFY W h)
 have HM:=hid hM
 clear hM
 by_cases h1:1000 < s.size
 · have g1:decide ((1000:Int) < (s.size:Int))=true:=decide_eq_true (by omega)
   clear h1
   go_enter Tryz.func4,Tryz.ntmps4
   go_wp2_with (first | go_skip | (go_at_call 15; refine (HA.out _ (HM.out.below (Below.refl _ _))).mono ?_; rintro e w9 ⟨rfl,hb9⟩) | fail)
   go_ret
   exact ⟨rfl,hb9⟩
 have g1:decide ((1000:Int) < (s.size:Int))=false:=decide_eq_false (by omega)
 have HR:=hid (fun W (h:Mw W)=>qLA s W (by omega) h)
 have HF:=hid (qCT (qAO s)).1
 have HG:=hid (fun p (h:compZ (bts s)=(p,0,0))=>gd_of (qAO s) h)
 generalize compZ (bts s)=C at *
 obtain ⟨p,e,q⟩:=C
 dsimp only at HR HF
 go_enter Tryz.func4,Tryz.ntmps4
 go_upto_region 3 with (first | go_skip | fail)
 go_cut [3,4] (McP p e q w)
 case first=>
  go_wp2_with (first
   | go_skip
   | (go_at_call 19; refine (HR.out _ HM.out).mono ?_; rintro e w1 ⟨PVa,rfl,hpt,hb1⟩; obtain ⟨hsa,h20,hce⟩:=hpt.out.sz)
   | (refine wpList_store_row rfl 24 _ _ rfl w1.heap.size PVa rfl rfl 24 patZ ((BX.new w1 patZ 24).alloc _) hsa h20 hce ?_)
   | (refine wpList_store_row rfl 27 _ _ rfl (w1.heap.size+1) #[.int .i64 _,.int .i64 _] rfl rfl 27 _ (pb_f PVa) (qA3 _ _) rfl (qA6 _ _) ?_)
   | fail)
  go_meet
  exact qJR hpt.out hb1
 case rest=>
 obtain ⟨a,PVb,rfl,rfl,hpb,hbc⟩:=hcut
 have HPB:=hid hpb
 have HB:=hid hbc
 clear hpb hbc HR
 have y0:=HPB.out.bf.c 0
 go_step
 by_cases h0:e=0
 case neg=>
  have g2:(e != 0)=true:=by simpa using h0
  clear h0
  go_wp2_with (first | go_skip | (go_at_call 15; refine (HA.out _ (HM.out.below HB.out)).mono ?_; rintro e w9 ⟨rfl,hb9⟩) | fail)
  go_ret
  exact ⟨rfl,HB.out.trans (hb9.mono HB.out.size)⟩
 subst h0
 obtain rfl:q=0:=HF.out rfl
 obtain ⟨N,hgd,-,hmx⟩:=HG.out p rfl
 have HP:=hid (fun PV W (h:Mw W) (hp:Ptv W PV p)=>qIW PV W h hp hgd hmx)
 have HC:=hid (qL7 hgd hmx)
 have hl:(stz (encs (prP p))).size≤10000000000:=by
  rw [← prB_eq hgd];have b1:=qHS p.g (partB p.g (fN p.num)) hgd.g.l0 hgd.g.l1 (qDQ (qJV p hgd.okN) (by show ((p.width:Nat):Int)≤400; have:=hgd.wid4; omega));have b2:=qHT p.g hgd.g.l3 hgd.g.l4;simp only [prB,ByteArray.size_append];omega
 have HR2:=hid (fun W (h:Mw W)=>qLA (stz (encs (prP p))) W hl h)
 rw [qAE (qJZ HC.out.2),HC.out.1] at HR2
 generalize stz (encs (prP p))=X at *
 have hsz:=HPB.out.pt.sz.1
 have ka:=HPB.out.bp
 clear hgd hmx HG HF HC hl h1
 go_upto_region 7 with (first
  | go_skip
  | (refine wpList_load_row rfl 24 _ rfl a rfl 24 PVb (0,0) _ ka Tryz.underlying24 rfl hsz ?_)
  | (go_at_call 17; refine (HP.out PVb _ (HM.out.below HB.out) HPB.out.pt).mono ?_; rintro e w2 ⟨rfl,hb2⟩)
  | fail)
 have HPB:=hid (HPB.out.below hb2)
 have HB:=hid (HB.out.trans (hb2.mono HB.out.size))
 clear hb2 ka y0
 go_cut [6,7] (McP p 0 0 w2)
 case first=>
  go_wp2_with (first
   | go_skip
   | (go_at_call 19; refine (HR2.out _ (HM.out.below HB.out)).mono ?_; rintro e w1 ⟨PVa,rfl,hpt,hb1⟩; obtain ⟨hsa,h20,hce⟩:=hpt.out.sz)
   | (refine wpList_store_row rfl 24 _ _ rfl w1.heap.size PVa rfl rfl 24 patZ ((BX.new w1 patZ 24).alloc _) hsa h20 hce ?_)
   | (refine wpList_store_row rfl 27 _ _ rfl (w1.heap.size+1) #[.int .i64 _,.int .i64 _] rfl rfl 27 _ (pb_f PVa) (qA3 _ _) rfl (qA6 _ _) ?_)
   | fail)
  go_meet
  exact qJR hpt.out hb1
 case rest=>
 obtain ⟨b,PVc,rfl,rfl,hpb,hbc⟩:=hcut
 have HPA:=hid (HPB.out.below hbc)
 have HPC:=hid hpb
 have HB:=hid (HB.out.trans (hbc.mono HB.out.size))
 clear hpb hbc HPB HR2
 have sa:=HPA.out.pt.sz.1
 have sb:=HPC.out.pt.sz.1
 go_step
 go_wp2_with (first
  | go_skip
  | (go_at_call 15; refine (HA.out _ (HM.out.below HB.out)).mono ?_; rintro e w3 ⟨rfl,hb3⟩; have HPA3:=hid (HPA.out.below hb3); have HPC3:=hid (HPC.out.below hb3); have HB3:=hid (HB.out.trans (hb3.mono HB.out.size)); have z0:=HPC3.out.bf.c 0; have ka:=HPA3.out.bp; have kb:=HPC3.out.bp)
  | (refine qAG rfl 24 _ rfl a rfl 24 PVb (0,0) _ ka Tryz.underlying24 rfl sa ?_)
  | (refine qAG rfl 24 _ rfl b rfl 24 PVc (0,0) _ kb Tryz.underlying24 rfl sb ?_)
  | (refine qAG rfl 24 _ rfl b rfl 24 PVc (0,0) _ kc Tryz.underlying24 rfl sb ?_)
  | (go_at_call 20; refine (samePt_c PVb PVc p _ HPA3.out.pt HPC3.out.pt).mono ?_; rintro e w4 ⟨rfl,hb4⟩; have HPC4:=hid (HPC3.out.below hb4); have HB4:=hid (HB3.out.trans (hb4.mono HB3.out.size)); have kc:=HPC4.out.bp)
  | (go_at_call 17; refine (HP.out PVc _ (HM.out.below HB4.out) HPC4.out.pt).mono ?_; rintro e w5 ⟨rfl,hb5⟩)
  | fail)
 go_ret
 exact ⟨rfl,HB4.out.trans (hb5.mono HB4.out.size)⟩
end Go.Proofs.YtnoeonaajefajaaGreatDoor
