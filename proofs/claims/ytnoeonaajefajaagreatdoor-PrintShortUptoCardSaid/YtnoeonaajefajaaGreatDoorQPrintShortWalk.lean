import Derived.Test.YtnoeonaajefajaaGreatDoorQZF
import Derived.Test.YtnoeonaajefajaaGreatDoorQTG
set_option linter.all false
set_option maxRecDepth 100000
set_option linter.unusedVariables false
namespace Go.Proofs.YtnoeonaajefajaaGreatDoor
open Go.RowKit
open Lib (hid)
theorem toks_prP {p:Pt} {N:List Nat} (h:GdP p N):∃ ts,toks (encs (prP p))=(ts,0,0)∧ts.length=(txT p (prN p.num (morP p)) [48]).length:=by
 have g:=(gd_pr h).1
 have h0:numZ [48]=({ minInt:=1 },0):=by decide
 have s1:=qER g.num
 have s2:=qER h0
 obtain ⟨ts,ht,he⟩:=toks_sck (qM6 h.pad s1 s2) (sck_text h.pad h.pre.1 h.suf.1 h.npre h.nsuf s1 s2) (by rw [List.length_map]; exact Nat.le_trans (gd_pr h).2 h.cnt)
 exact ⟨ts,ht,by have:=congrArg List.length he; rwa [List.length_map,List.length_map] at this⟩
def ScP (n:Nat) (W:World) (v u:Value) (Wc:World):Prop:=∃ A c b,v=.slice A n c∧u=.pointer (some ⟨b,0,none⟩)∧BX Wc b #[.int .i64 0,.int .i64 0] 27∧Below W.heap.size W Wc
theorem sc_new {W w1:World} {A:Option Addr} {m c:Nat} {e p:Int} (he:e=0) (hp:p=0) (hb:Below W.heap.size W w1) :
 ScP m W (.slice A m c) (.pointer (some ⟨w1.heap.size,0,none⟩)) ((w1.alloc (.cells #[.int .i64 0,.int .i64 0] 27)).setRow w1.heap.size #[.int .i64 e,.int .i64 p]):=by
 subst he hp
 exact ⟨A,c,w1.heap.size,rfl,rfl,setRow_heap _ _ _ _ _ _ (BX.new w1 _ _),(hb.alloc hb.size _).setRow hb.size _⟩
set_option maxHeartbeats 8000000 in
theorem qIK (s:ByteArray) (w:World) (hs:s.size≤1048576) (hM:Mw w):Calls Tryz.prog 7 #[.string s] w fun e w'=>e=.returned (.bool true)∧Below w.heap.size w w':=by
 have HA:=hid (fun W (h:Mw W)=>qFY W h)
 have HM:=hid hM
 have HR:=hid (fun W=>rcomp_v s W (by omega))
 have HF:=hid (qCT (qAO s)).1
 have HG:=hid (fun p (h:compZ (bts s)=(p,0,0))=>gd_of (qAO s) h)
 have HT:=hid (fun (h:(compZ (bts s)).2.1=0)=>show (toks (bts s)).2.1=0 from by
  refine Classical.byContradiction fun k=>?_
  rw [compZ_a k] at h;exact k h)
 have HT2:=hid (qJL (qAO s)).1
 have HS:=hid (fun W=>qIT s W (by omega))
 have HL:=hid (fun (A:Option Addr) (m c:Nat) (W:World) (b:Nat) (h:OwnT W b A m c (toks (bts s)).1)=>h.tks.len)
 clear hM
 generalize toks (bts s)=K at *
 obtain ⟨ts,te,tp⟩:=K
 generalize compZ (bts s)=C at *
 obtain ⟨p,e,q⟩:=C
 dsimp only at HR HF HT HT2 HS HL HG
 go_enter Tryz.func7,Tryz.ntmps7
 go_upto_region 1 with fail
 go_cut [3,4] (McP p e q w)
 case first=>
  go_wp2_with (first
   | go_skip
   | (go_at_call 14; refine (HR.out _).mono ?_; rintro e w1 ⟨PVa,rfl,hpt,hb1⟩; obtain ⟨hsa,h20,hce⟩:=hpt.out.sz)
   | (refine wpList_store_row rfl 24 _ _ rfl w1.heap.size PVa rfl rfl 24 patZ ((BX.new w1 patZ 24).alloc _) hsa h20 hce ?_)
   | (refine wpList_store_row rfl 27 _ _ rfl (w1.heap.size+1) #[.int .i64 _,.int .i64 _] rfl rfl 27 _ (pb_f PVa) (qA3 _ _) rfl (qA6 _ _) ?_)
   | fail)
  go_meet
  exact qJR hpt.out hb1
 case rest=>
 obtain ⟨a,PVb,rfl,rfl,hpb,hbc⟩:=hcut
 have HPB:=hid hpb
 have HB:=hid hbc
 clear hpb hbc HR
 have y0:=HPB.out.bf.c 0
 go_step
 by_cases h1:1000 < s.size
 · have g1:decide ((1000:Int) < (s.size:Int))=true:=decide_eq_true (by omega)
   clear h1
   go_wp2_with (first | go_skip | (go_at_call 15; refine (HA.out _ (HM.out.below HB.out)).mono ?_; rintro e w9 ⟨rfl,hb9⟩) | fail)
   go_ret
   exact ⟨rfl,HB.out.trans (hb9.mono HB.out.size)⟩
 have g1:decide ((1000:Int) < (s.size:Int))=false:=decide_eq_false (by omega)
 by_cases h0:e=0
 case neg=>
  have g2:(e != 0)=true:=by simpa using h0
  clear h0
  go_wp2_with (first | go_skip | (go_at_call 15; refine (HA.out _ (HM.out.below HB.out)).mono ?_; rintro e w9 ⟨rfl,hb9⟩) | fail)
  go_ret
  exact ⟨rfl,HB.out.trans (hb9.mono HB.out.size)⟩
 subst h0
 obtain rfl:q=0:=HF.out rfl
 have ht0:=HT.out rfl
 subst ht0
 obtain rfl:tp=0:=HT2.out rfl
 obtain ⟨N,hgd,hcnt,hmx⟩:=HG.out p rfl
 obtain ⟨us,hus,hul⟩:=toks_prP hgd
 have HLE:=hid (show us.length≤ts.length by rw [hul]; exact Nat.le_trans (gd_pr hgd).2 hcnt)
 have HP:=hid (fun PV W (h:Mw W) (hp:Ptv W PV p)=>qIW PV W h hp hgd hmx)
 have hl:(stz (encs (prP p))).size≤10000000000:=by
  rw [← prB_eq hgd];have b1:=qHS p.g (partB p.g (fN p.num)) hgd.g.l0 hgd.g.l1 (qDQ (qJV p hgd.okN) (by show ((p.width:Nat):Int)≤400; have:=hgd.wid4; omega));have b2:=qHT p.g hgd.g.l3 hgd.g.l4;simp only [prB,ByteArray.size_append];omega
 have HS2:=hid (fun W=>qIT (stz (encs (prP p))) W hl)
 rw [qAE (qJZ (qL7 hgd hmx).2),hus] at HS2
 generalize stz (encs (prP p))=X at *
 have hsz:=HPB.out.pt.sz.1
 clear hgd hmx HG HF HT HT2 hl h1 hcnt hus hul
 go_upto_region 4 with (first | go_skip | fail)
 clear y0 g1
 go_cut [5,6] (ScP ts.length wc)
 case first=>
  go_wp2_with (first
   | go_skip
   | (go_at_call 22; refine (HS.out _).mono ?_; rintro e w5 ⟨A5,m5,c5,rfl,ho5,hb5⟩)
   | (refine wpList_store_row rfl 27 _ _ rfl w5.heap.size #[.int .i64 _,.int .i64 _] rfl rfl 27 #[.int .i64 0,.int .i64 0] (BX.new w5 _ _) (qA3 _ _) rfl (qA6 _ _) ?_)
   | fail)
  go_meet
  have e5:=HL.out _ _ _ _ _ ho5.out;rw [e5];exact sc_new rfl rfl hb5.out
 case rest=>
 obtain ⟨A6,c6,b6,rfl,rfl,hbx6,hb6⟩:=hcut
 have HPB:=hid (HPB.out.below hb6)
 have HB:=hid (HB.out.trans (hb6.mono HB.out.size))
 clear hb6 hbx6 HS HL
 have ka:=HPB.out.bp
 go_step
 go_step
 go_cut [7,8] (ScP us.length wc)
 case first=>
  go_wp2_with (first
   | go_skip
   | (refine wpList_load_row rfl 24 _ rfl a rfl 24 PVb (0,0) _ ka Tryz.underlying24 rfl hsz ?_)
   | (go_at_call 17; refine (HP.out PVb _ (HM.out.below HB.out) HPB.out.pt).mono ?_; rintro e w2 ⟨rfl,hb2⟩)
   | (go_at_call 22; refine (HS2.out _).mono ?_; rintro e w5 ⟨A5,m5,c5,rfl,ho5,hb5⟩)
   | (refine wpList_store_row rfl 27 _ _ rfl w5.heap.size #[.int .i64 _,.int .i64 _] rfl rfl 27 #[.int .i64 0,.int .i64 0] (BX.new w5 _ _) (qA3 _ _) rfl (qA6 _ _) ?_)
   | fail)
  go_meet
  have e5:=ho5.out.tks.len;rw [e5];exact sc_new rfl rfl (hb2.trans (hb5.out.mono hb2.size))
 case rest=>
 obtain ⟨A8,c8,b8,rfl,rfl,hbx8,hb8⟩:=hcut
 have HB:=hid (HB.out.trans (hb8.mono HB.out.size))
 have HX8:=hid hbx8
 clear hb8 hbx8 ka
 have hle:=HLE.out
 go_step
 go_wp2_with (first
  | go_skip
  | (go_at_call 15; refine (HA.out _ (HM.out.below HB.out)).mono ?_; rintro e w3 ⟨rfl,hb3⟩; have z0:=(HX8.out.below hb3 HX8.out.lt).c 0)
  | fail)
 go_ret
 exact ⟨rfl,HB.out.trans (hb3.mono HB.out.size)⟩
end Go.Proofs.YtnoeonaajefajaaGreatDoor
