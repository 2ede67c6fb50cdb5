import Derived.Test.YtohfadegildnaaaQCD
import Derived.Test.YtohfadegildnaaaQSL
set_option linter.all false
set_option maxRecDepth 100000
set_option linter.unusedVariables false
namespace Go.Proofs.Ytohfadegildnaaa
open Go.RowKit
open Lib (hid)
structure Gp (p:Pt):Prop where
 afx:Afx p
 at0:0≤p.at_
 pad:isZ p.pad=true
theorem GdP.gp {p:Pt} {N:List Nat} (h:GdP p N):Gp p:=⟨h.afx,h.ok.lo,h.pad⟩
theorem gp_of {l:List Nat} (hl:∀ b ∈ l,b < 256) {p:Pt} (h:compZ l=(p,0,0)):Gp p:=by
 obtain ⟨N,g,-⟩:=gd_of hl h
 exact g.gp
theorem Gp.nat {p:Pt} (g:Gp p):p.pad=((p.pad.toNat:Nat):Int)∧isC p.pad.toNat=true:=by
 have h:=qAQ.1 g.pad
 have e:p.pad=((p.pad.toNat:Nat):Int):=by omega
 refine ⟨e,?_⟩
 have:=g.pad
 rw [e,qBR] at this
 exact this
theorem qEF (PV:Array Value) (p:Pt) (Z:Nat) (d g mi pl pc pm cu e:ByteArray) (w:World) (h:Ptv w PV p) (k:Gp p) (hg:qD1 (Z:Int) (tx8 d g mi pl pc pm cu e)=true) :
 Calls Try.prog 11 #[.agg PV,.agg #[.int .i32 (Z:Int),.string d,.string g,.string mi,.string pl,.string pc,.string pm,.string cu,.string e]] w fun e' w'=>e'=.returned (.bool (clr Z p.at_ p.pad (txtI (tx5 mi pl pc pm cu) p.pre) (txtI (tx5 mi pl pc pm cu) p.suf) (txtI (tx5 mi pl pc pm cu) p.npre) (txtI (tx5 mi pl pc pm cu) p.nsuf) d g mi pl e))∧Below w.heap.size w w':=
 clear_c PV p Z p.pad.toNat d g mi pl pc pm cu e w h k.afx hg k.at0 k.nat.1 k.nat.2 h.sz.1
theorem refClear_g (PV:Array Value) (p:Pt) (Z:Nat) (d g mi pl pc pm cu e:ByteArray) (w:World) (h:Ptv w PV p) (k:Gp p) (hg:qD1 (Z:Int) (tx8 d g mi pl pc pm cu e)=true) :
 Calls Try.prog 12 #[.agg PV,.agg #[.int .i32 (Z:Int),.string d,.string g,.string mi,.string pl,.string pc,.string pm,.string cu,.string e]] w fun e' w'=>e'=.returned (.bool (clr Z p.at_ p.pad (txtI (tx5 mi pl pc pm cu) p.pre) (txtI (tx5 mi pl pc pm cu) p.suf) (txtI (tx5 mi pl pc pm cu) p.npre) (txtI (tx5 mi pl pc pm cu) p.nsuf) d g mi pl e))∧Below w.heap.size w w':=
 refClear_c PV p Z p.pad.toNat d g mi pl pc pm cu e w h k.afx hg k.at0 k.nat.1 k.nat.2 h.sz.1
structure MB (w0:World) (b:Nat) (SV:Array Value) (a:Nat) (PV:Array Value) (e q:Int) (p:Pt) (W:World):Prop where
 pb:PB W a PV e q p
 bs:BX W b SV 23
 bl:Below w0.heap.size w0 W
theorem MB.below {w0 W W':World} {b a:Nat} {SV PV:Array Value} {e q:Int} {p:Pt} (x:MB w0 b SV a PV e q p W) (hb:Below W.heap.size W W'):MB w0 b SV a PV e q p W':=⟨x.pb.below hb,x.bs.below hb x.bs.lt,x.bl.trans (hb.mono x.bl.size)⟩
theorem MB.drew {w0 W:World} {b a:Nat} {SV PV:Array Value} {e q:Int} {p:Pt} (x:MB w0 b SV a PV e q p W):MB w0 b SV a PV e q p W.drew:=⟨⟨x.pb.bp,x.pb.bf,x.pb.pt.below (Below.refl _ _).drew⟩,x.bs,x.bl.drew⟩
def M1 (w0:World) (b:Nat) (SV:Array Value) (p:Pt) (e q:Int) (v u:Value) (W:World):Prop:=∃ a PV,v=.pointer (some ⟨a,0,none⟩)∧u=.pointer (some ⟨a+1,0,none⟩)∧Hid (MB w0 b SV a PV e q p W)
theorem m1_of {w0 W Wc:World} {b:Nat} {SV:Array Value} {p:Pt} {e q:Int} {v u:Value} (h:McP p e q W v u Wc) (hs:BX W b SV 23) (hb:Below w0.heap.size w0 W):M1 w0 b SV p e q v u Wc:=by
 obtain ⟨a,PV,h1,h2,h3,h4⟩:=h
 exact ⟨a,PV,h1,h2,hid ⟨h3,hs.below h4 hs.lt,hb.trans (h4.mono hb.size)⟩⟩
def M2 (w0:World) (b:Nat) (SV:Array Value) (a:Nat) (PV:Array Value) (e q:Int) (p p2:Pt) (e2 q2:Int) (v u:Value) (W:World):Prop:=∃ a2 PV2,v=.pointer (some ⟨a2,0,none⟩)∧u=.pointer (some ⟨a2+1,0,none⟩)∧Hid (MB w0 b SV a PV e q p W)∧Hid (PB W a2 PV2 e2 q2 p2)
theorem m2_of {w0 W Wc:World} {b:Nat} {SV:Array Value} {a:Nat} {PV:Array Value} {e q:Int} {p p2:Pt} {e2 q2:Int} {v u:Value} (h:McP p2 e2 q2 W v u Wc) (hm:MB w0 b SV a PV e q p W):M2 w0 b SV a PV e q p p2 e2 q2 v u Wc:=by
 obtain ⟨a2,PV2,h1,h2,h3,h4⟩:=h
 exact ⟨a2,PV2,h1,h2,hid (hm.below h4),hid h3⟩
def qDW:Pt:={ neg:=true,npre:=[(1,40)],nsuf:=[(1,41)],num:={ minInt:=1 } }
def qEU:Pt:={ neg:=true,num:={ minInt:=1 } }
theorem qH8:compZ [48,59,40,48,41]=(qDW,0,0):=by kernel_rfl
theorem qH9:compZ [48,59,48]=(qEU,0,0):=by kernel_rfl
theorem qGA:qD1 (48:Nat) (tx8 ⟨#[46]⟩ ⟨#[44]⟩ ⟨#[45]⟩ ⟨#[43]⟩ ⟨#[37]⟩ ⟨#[112]⟩ ⟨#[99]⟩ ⟨#[69]⟩)=true:=by decide +kernel
theorem ea21_clr:clr 48 qDW.at_ qDW.pad (txtI (tx5 ⟨#[45]⟩ ⟨#[43]⟩ ⟨#[37]⟩ ⟨#[112]⟩ ⟨#[99]⟩) qDW.pre) (txtI (tx5 ⟨#[45]⟩ ⟨#[43]⟩ ⟨#[37]⟩ ⟨#[112]⟩ ⟨#[99]⟩) qDW.suf) (txtI (tx5 ⟨#[45]⟩ ⟨#[43]⟩ ⟨#[37]⟩ ⟨#[112]⟩ ⟨#[99]⟩) qDW.npre) (txtI (tx5 ⟨#[45]⟩ ⟨#[43]⟩ ⟨#[37]⟩ ⟨#[112]⟩ ⟨#[99]⟩) qDW.nsuf) ⟨#[46]⟩ ⟨#[44]⟩ ⟨#[45]⟩ ⟨#[43]⟩ ⟨#[69]⟩=true:=by decide +kernel
theorem eb21_clr:clr 48 qEU.at_ qEU.pad (txtI (tx5 ⟨#[45]⟩ ⟨#[43]⟩ ⟨#[37]⟩ ⟨#[112]⟩ ⟨#[99]⟩) qEU.pre) (txtI (tx5 ⟨#[45]⟩ ⟨#[43]⟩ ⟨#[37]⟩ ⟨#[112]⟩ ⟨#[99]⟩) qEU.suf) (txtI (tx5 ⟨#[45]⟩ ⟨#[43]⟩ ⟨#[37]⟩ ⟨#[112]⟩ ⟨#[99]⟩) qEU.npre) (txtI (tx5 ⟨#[45]⟩ ⟨#[43]⟩ ⟨#[37]⟩ ⟨#[112]⟩ ⟨#[99]⟩) qEU.nsuf) ⟨#[46]⟩ ⟨#[44]⟩ ⟨#[45]⟩ ⟨#[43]⟩ ⟨#[69]⟩=false:=by decide +kernel
set_option maxHeartbeats 4000000 in
theorem qDX (w:World):Calls Try.prog 8 #[] w fun e w'=>e=.returned (.bool true)∧Below w.heap.size w w':=by
 have ga:=gp_of (qAF ⟨#[48,59,40,48,41]⟩) qH8
 have gb:=gp_of (qAF ⟨#[48,59,48]⟩) qH9
 have RA:Hid (∀ W,Calls Try.prog 6 #[.string ⟨#[48,59,40,48,41]⟩] W fun x w'=>∃ PV,x=.returned (.tuple #[.agg PV,.agg #[.int .i64 0,.int .i64 0]])∧Hid (Ptv w' PV qDW)∧Below W.heap.size W w'):=hid fun W=>by
  have h:=qFU ⟨#[48,59,40,48,41]⟩ W (by decide);rw [show compZ (bts ⟨#[48,59,40,48,41]⟩)=(qDW,0,0) from qH8] at h;exact h
 have RB:Hid (∀ W,Calls Try.prog 6 #[.string ⟨#[48,59,48]⟩] W fun x w'=>∃ PV,x=.returned (.tuple #[.agg PV,.agg #[.int .i64 0,.int .i64 0]])∧Hid (Ptv w' PV qEU)∧Below W.heap.size W w'):=hid fun W=>by
  have h:=qFU ⟨#[48,59,48]⟩ W (by decide);rw [show compZ (bts ⟨#[48,59,48]⟩)=(qEU,0,0) from qH9] at h;exact h
 have CP:Hid (∀ W PV,Ptv W PV qDW→Calls Try.prog 9 #[.agg PV,.agg #[.int .i32 48,.string ⟨#[46]⟩,.string ⟨#[44]⟩,.string ⟨#[45]⟩,.string ⟨#[43]⟩,.string ⟨#[37]⟩,.string ⟨#[112]⟩,.string ⟨#[99]⟩,.string ⟨#[69]⟩],.bool true] W fun e w'=>e=.returned (.tuple #[.string ⟨#[40]⟩,.string ⟨#[41]⟩])∧Hid (Below W.heap.size W w')):=hid fun W PV h=>qF9 PV qDW 48 ⟨#[46]⟩ ⟨#[44]⟩ ⟨#[45]⟩ ⟨#[43]⟩ ⟨#[37]⟩ ⟨#[112]⟩ ⟨#[99]⟩ ⟨#[69]⟩ true W h ga.afx (qBI qGA)
 have KA:Hid (∀ W PV,Ptv W PV qDW→Calls Try.prog 11 #[.agg PV,.agg #[.int .i32 48,.string ⟨#[46]⟩,.string ⟨#[44]⟩,.string ⟨#[45]⟩,.string ⟨#[43]⟩,.string ⟨#[37]⟩,.string ⟨#[112]⟩,.string ⟨#[99]⟩,.string ⟨#[69]⟩]] W fun e w'=>e=.returned (.bool true)∧Below W.heap.size W w'):=hid fun W PV h=>by
  have h:=qEF PV qDW 48 ⟨#[46]⟩ ⟨#[44]⟩ ⟨#[45]⟩ ⟨#[43]⟩ ⟨#[37]⟩ ⟨#[112]⟩ ⟨#[99]⟩ ⟨#[69]⟩ W h ga qGA;rw [ea21_clr] at h;exact h
 have KB:Hid (∀ W PV,Ptv W PV qEU→Calls Try.prog 11 #[.agg PV,.agg #[.int .i32 48,.string ⟨#[46]⟩,.string ⟨#[44]⟩,.string ⟨#[45]⟩,.string ⟨#[43]⟩,.string ⟨#[37]⟩,.string ⟨#[112]⟩,.string ⟨#[99]⟩,.string ⟨#[69]⟩]] W fun e w'=>e=.returned (.bool false)∧Below W.heap.size W w'):=hid fun W PV h=>by
  have h:=qEF PV qEU 48 ⟨#[46]⟩ ⟨#[44]⟩ ⟨#[45]⟩ ⟨#[43]⟩ ⟨#[37]⟩ ⟨#[112]⟩ ⟨#[99]⟩ ⟨#[69]⟩ W h gb qGA;rw [eb21_clr] at h;exact h
 have HS:Hid (BX (w.alloc (.cells #[.int .i32 48,.string ⟨#[46]⟩,.string ⟨#[44]⟩,.string ⟨#[45]⟩,.string ⟨#[43]⟩,.string ⟨#[37]⟩,.string ⟨#[112]⟩,.string ⟨#[99]⟩,.string ⟨#[69]⟩] 23)) w.heap.size #[.int .i32 48,.string ⟨#[46]⟩,.string ⟨#[44]⟩,.string ⟨#[45]⟩,.string ⟨#[43]⟩,.string ⟨#[37]⟩,.string ⟨#[112]⟩,.string ⟨#[99]⟩,.string ⟨#[69]⟩] 23):=hid (BX.new _ _ _)
 have HB:Hid (Below w.heap.size w (w.alloc (.cells #[.int .i32 48,.string ⟨#[46]⟩,.string ⟨#[44]⟩,.string ⟨#[45]⟩,.string ⟨#[43]⟩,.string ⟨#[37]⟩,.string ⟨#[112]⟩,.string ⟨#[99]⟩,.string ⟨#[69]⟩] 23))):=hid ((Below.refl _ _).alloc (Nat.le_refl _) _)
 have hss:(Try.prog.info? 23).map (·.size)=some (#[.int .i32 48,.string ⟨#[46]⟩,.string ⟨#[44]⟩,.string ⟨#[45]⟩,.string ⟨#[43]⟩,.string ⟨#[37]⟩,.string ⟨#[112]⟩,.string ⟨#[99]⟩,.string ⟨#[69]⟩]:Array Value).size:=by kernel_rfl
 clear ga gb
 go_enter Try.func8,Try.ntmps8
 go_upto_region 2 with fail
 generalize w.alloc (.cells #[.int .i32 48,.string ⟨#[46]⟩,.string ⟨#[44]⟩,.string ⟨#[45]⟩,.string ⟨#[43]⟩,.string ⟨#[37]⟩,.string ⟨#[112]⟩,.string ⟨#[99]⟩,.string ⟨#[69]⟩] 23)=W0 at *
 generalize hgb:w.heap.size=b at *
 have HGB:=hid hgb
 have HB0:Hid (Below w.heap.size w W0):=hid (by rw [hgb]; exact HB.out)
 clear hgb HB
 go_cut [2,3] (M1 w b #[.int .i32 48,.string ⟨#[46]⟩,.string ⟨#[44]⟩,.string ⟨#[45]⟩,.string ⟨#[43]⟩,.string ⟨#[37]⟩,.string ⟨#[112]⟩,.string ⟨#[99]⟩,.string ⟨#[69]⟩] qDW 0 0)
 case first=>
  go_wp2_with (first
   | go_skip
   | (go_at_call 6; refine (RA.out _).mono ?_; rintro e1 w1 ⟨PV1,rfl,hpt1,hb1⟩; obtain ⟨hsa,h20,hce⟩:=hpt1.out.sz)
   | (refine wpList_store_row rfl 26 _ _ rfl w1.heap.size PV1 rfl rfl 26 patZ ((BX.new w1 patZ 26).alloc _) hsa h20 hce ?_)
   | (refine wpList_store_row rfl 29 _ _ rfl (w1.heap.size+1) #[.int .i64 _,.int .i64 _] rfl rfl 29 _ (pb_f PV1) (qA6 _ _) rfl (qA9 _ _) ?_)
   | fail)
  go_meet
  exact m1_of (qHS hpt1.out hb1) HS.out HB0.out
 case rest=>
 obtain ⟨a,PVa,rfl,rfl,HM⟩:=hcut
 clear HS HB0 RA
 go_upto_region 3 with fail
 go_cut [4,5] (M2 w b #[.int .i32 48,.string ⟨#[46]⟩,.string ⟨#[44]⟩,.string ⟨#[45]⟩,.string ⟨#[43]⟩,.string ⟨#[37]⟩,.string ⟨#[112]⟩,.string ⟨#[99]⟩,.string ⟨#[69]⟩] a PVa 0 0 qDW qEU 0 0)
 case first=>
  go_wp2_with (first
   | go_skip
   | (go_at_call 6; refine (RB.out _).mono ?_; rintro e2 w2 ⟨PV2,rfl,hpt2,hb2⟩; obtain ⟨hsa,h20,hce⟩:=hpt2.out.sz)
   | (refine wpList_store_row rfl 26 _ _ rfl w2.heap.size PV2 rfl rfl 26 patZ ((BX.new w2 patZ 26).alloc _) hsa h20 hce ?_)
   | (refine wpList_store_row rfl 29 _ _ rfl (w2.heap.size+1) #[.int .i64 _,.int .i64 _] rfl rfl 29 _ (pb_f PV2) (qA6 _ _) rfl (qA9 _ _) ?_)
   | fail)
  go_meet
  exact m2_of (qHS hpt2.out hb2) HM.out
 case rest=>
 obtain ⟨a2,PVb,rfl,rfl,HM2,HN2⟩:=hcut
 clear HM RB
 go_upto_region 4 with fail
 have sa:=HM2.out.pb.pt.sz.1
 have sb:=HN2.out.pt.sz.1
 go_wp2_with (first
  | go_skip
  | (refine qA1 rfl 26 _ rfl a rfl 26 PVa (0,0) _ (by first | exact HM4.out.pb.bp | exact HM3.out.pb.bp | exact HM2.out.pb.bp) Try.underlying26 rfl sa ?_)
  | (refine qA1 rfl 26 _ rfl a2 rfl 26 PVb (0,0) _ (by first | exact HN4.out.bp | exact HN3.out.bp | exact HN2.out.bp) Try.underlying26 rfl sb ?_)
  | (refine qA1 rfl 23 _ rfl b rfl 23 #[.int .i32 48,.string ⟨#[46]⟩,.string ⟨#[44]⟩,.string ⟨#[45]⟩,.string ⟨#[43]⟩,.string ⟨#[37]⟩,.string ⟨#[112]⟩,.string ⟨#[99]⟩,.string ⟨#[69]⟩] (0,0) _ (by first | exact HM4.out.bs | exact HM3.out.bs | exact HM2.out.bs) Try.underlying23 rfl hss ?_)
  | (go_at_call 9; (with_reducible refine (CP.out _ PVa HM2.out.pb.pt).mono ?_); rintro e3 w3 ⟨rfl,hb3⟩; have HM3:=hid (HM2.out.below hb3.out); have HN3:=hid (HN2.out.below hb3.out); clear CP)
  | (go_at_call 11; first
   | ((with_reducible refine (KA.out _ PVa HM3.out.pb.pt).mono ?_); rintro e4 w4 ⟨rfl,hb4⟩; have HM4:=hid (HM3.out.below hb4); have HN4:=hid (HN3.out.below hb4); clear KA)
   | ((with_reducible refine (KB.out _ PVb HN4.out.pt).mono ?_); rintro e5 w5 ⟨rfl,hb5⟩; have HM5:=hid (HM4.out.below hb5)))
  | fail)
 go_ret
 exact ⟨rfl,HM5.out.bl⟩
end Go.Proofs.Ytohfadegildnaaa
