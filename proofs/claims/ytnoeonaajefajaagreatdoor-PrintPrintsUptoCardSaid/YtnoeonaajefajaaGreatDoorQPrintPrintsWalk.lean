import Derived.Test.YtnoeonaajefajaaGreatDoorQZF
import Derived.Test.YtnoeonaajefajaaGreatDoorQZE
set_option linter.all false
set_option maxRecDepth 100000
set_option linter.unusedVariables false
namespace Go.Proofs.YtnoeonaajefajaaGreatDoor
open Go.RowKit
open Lib (hid)
set_option maxHeartbeats 8000000 in
theorem qHG (s:ByteArray) (w:World) (hs:s.size≤1048576) (hM:Mw w):Calls Tryz.prog 3 #[.string s] w fun e w'=>e=.returned (.bool true)∧Below w.heap.size w w':=by
 have HA:=hid (fun W (h:Mw W)=>qFY W h)
 have HM:=hid hM
 have HR:=hid (fun W=>rcomp_v s W (by omega))
 have HF:=hid (qCT (qAO s)).1
 have HG:=hid (fun p (h:compZ (bts s)=(p,0,0))=>gd_of (qAO s) h)
 clear hM
 generalize compZ (bts s)=C at *
 obtain ⟨p,e,q⟩:=C
 dsimp only at HR HF
 go_enter Tryz.func3,Tryz.ntmps3
 go_upto_region 1 with fail
 go_cut [3,4] (McP p e q w)
 case first=>
  go_wp2_with (first
   | go_skip
   | (go_at_call 14; refine (HR.out _).mono ?_; rintro e w1 ⟨PVa,rfl,hpt,hb1⟩; obtain ⟨hsa,h20,hce⟩:=hpt.out.sz)
   | (refine wpList_store_row rfl 24 _ _ rfl w1.heap.size PVa rfl rfl 24 patZ ((BX.new w1 patZ 24).alloc _) hsa h20 hce ?_)
   | (refine wpList_store_row rfl 27 _ _ rfl (w1.heap.size+1) #[.int .i64 _,.int .i64 _] rfl rfl 27 _ (pb_f PVa) (qA3 _ _) rfl (qA6 _ _) ?_)
   | fail)
  go_meet
  exact qJR hpt.out hb1
 case rest=>
 obtain ⟨a,PVb,rfl,rfl,hpb,hbc⟩:=hcut
 have HPB:=hid hpb
 have HB:=hid hbc
 clear hpb hbc HR
 have y0:=HPB.out.bf.c 0
 go_step
 by_cases h1:1000 < s.size
 · have g1:decide ((1000:Int) < (s.size:Int))=true:=decide_eq_true (by omega)
   clear h1
   go_wp2_with (first | go_skip | (go_at_call 15; refine (HA.out _ (HM.out.below HB.out)).mono ?_; rintro e w9 ⟨rfl,hb9⟩) | fail)
   go_ret
   exact ⟨rfl,HB.out.trans (hb9.mono HB.out.size)⟩
 have g1:decide ((1000:Int) < (s.size:Int))=false:=decide_eq_false (by omega)
 by_cases h0:e=0
 case neg=>
  have g2:(e != 0)=true:=by simpa using h0
  clear h0
  go_wp2_with (first | go_skip | (go_at_call 15; refine (HA.out _ (HM.out.below HB.out)).mono ?_; rintro e w9 ⟨rfl,hb9⟩) | fail)
  go_ret
  exact ⟨rfl,HB.out.trans (hb9.mono HB.out.size)⟩
 subst h0
 obtain rfl:q=0:=HF.out rfl
 obtain ⟨N,hgd,-,hmx⟩:=HG.out p rfl
 have HGD:=hid hgd
 have HMX:=hid hmx
 have hsz:=HPB.out.pt.sz.1
 clear hgd hmx HG HF
 go_upto_region 4 with (first | go_skip | fail)
 clear y0 g1 h1
 refine wp_region_held_drew (S:=(fun W:World=>Hid (PB W a PVb 0 0 p∧Below w.heap.size w W))) (by kernel_rfl) (hid ⟨⟨HPB.out.bp,HPB.out.bf,HPB.out.pt.below (Below.refl _ _).drew⟩,HB.out.drew⟩) (fun hHeld=>?_)
 refine qk 0 (HA.out _ (HM.out.below hHeld.out.2)) (fun W hb=>hid ⟨hHeld.out.1.below hb,hHeld.out.2.trans (hb.mono hHeld.out.2.size)⟩) fun W hHeld _=>?_
 try simp only [pk]
 refine' qt 1 hHeld ?_
 try simp only [pk]
 refine ql 2 hHeld (fun _ h=>h.out.1.bp) Tryz.underlying24 hsz ?_
 try simp only [pk]
 refine qk 3 (good_g PVb _ (HM.out.below hHeld.out.2) hHeld.out.1.pt HGD.out HMX.out) (fun W hb=>hid ⟨hHeld.out.1.below hb,hHeld.out.2.trans (hb.mono hHeld.out.2.size)⟩) fun W hHeld _=>?_
 try simp only [pk]
 refine' qt 4 hHeld ?_
 try simp only [pk]
 refine' qt 5 hHeld ?_
 try simp only [pk]
 refine ql 6 hHeld (fun _ h=>h.out.1.bp) Tryz.underlying24 hsz ?_
 try simp only [pk]
 refine ql 8 hHeld (fun _ h=>h.out.1.bp) Tryz.underlying24 hsz ?_
 try simp only [pk]
 refine qk 7 (qIW PVb _ (HM.out.below hHeld.out.2) hHeld.out.1.pt HGD.out HMX.out) (fun W hb=>hid ⟨hHeld.out.1.below hb,hHeld.out.2.trans (hb.mono hHeld.out.2.size)⟩) fun W hHeld _=>?_
 try simp only [pk]
 refine qk 9 (refPP_c PVb p _ hHeld.out.1.pt HGD.out) (fun W hb=>hid ⟨hHeld.out.1.below hb,hHeld.out.2.trans (hb.mono hHeld.out.2.size)⟩) fun W hHeld _=>?_
 try simp only [pk]
 refine' qt 10 hHeld ?_
 try simp only [pk]
 refine' qt 11 hHeld ?_
 try simp only [pk]
 refine' qt 12 hHeld ?_
 try simp only [pk]
 refine wpAnyH_done (by kernel_rfl) ?_ _
 have HBe:=hid hHeld.out.2
 clear hHeld
 go_wp2
 go_ret
 exact ⟨rfl,HBe.out⟩
end Go.Proofs.YtnoeonaajefajaaGreatDoor
