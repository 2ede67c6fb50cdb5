import Derived.Test.YtohfadegildnaaaQCE
set_option linter.all false
set_option maxRecDepth 100000
set_option linter.unusedVariables false
namespace Go.Proofs.Ytohfadegildnaaa
open Go.RowKit
open Lib (hid)
def N1 (w0:World) (b:Nat) (SV:Array Value) (a:Nat) (PV:Array Value) (p:Pt) (ef qf:Int) (N:NF) (c:Int) (v u:Value) (W:World):Prop:=∃ a2 W2,v=.pointer (some ⟨a2,0,none⟩)∧u=.int .i64 c∧Hid (MB w0 b SV a PV ef qf p W2)∧Hid (W2.heap.size=a2)∧Hid (Below a2 W2 W)∧Hid (BX W a2 (patN N) 26)
theorem n1_of {w0 W W2:World} {b:Nat} {SV:Array Value} {a:Nat} {PV:Array Value} {p:Pt} {ef qf:Int} {N:NF} {c:Int} (hm:MB w0 b SV a PV ef qf p W) (hb:Below W.heap.size W W2) :
 N1 w0 b SV a PV p ef qf N c (.pointer (some ⟨W2.heap.size,0,none⟩)) (.int .i64 c) ((W2.alloc (.cells patZ 26)).setRow W2.heap.size (patN N)):=
 ⟨_,W2,rfl,rfl,hid (hm.below hb),hid rfl,hid (((Below.refl _ _).alloc (Nat.le_refl _) _).setRow (Nat.le_refl _) _),hid (setRow_heap _ _ _ _ _ _ (BX.new W2 patZ 26))⟩
structure NB (W2:World) (b a2 a3:Nat) (SV P2 P3:Array Value) (W:World):Prop where
 q:BX W a2 P2 26
 r:BX W a3 P3 26
 s:BX W b SV 23
 bl:Below a2 W2 W
theorem NB.drew {W2 W:World} {b a2 a3:Nat} {SV P2 P3:Array Value} (x:NB W2 b a2 a3 SV P2 P3 W):NB W2 b a2 a3 SV P2 P3 W.drew:=⟨x.q,x.r,x.s,x.bl.drew⟩
theorem NB.below {W2 W W':World} {b a2 a3:Nat} {SV P2 P3:Array Value} (x:NB W2 b a2 a3 SV P2 P3 W) (hb:Below W.heap.size W W'):NB W2 b a2 a3 SV P2 P3 W':=
 ⟨x.q.below hb x.q.lt,x.r.below hb x.r.lt,x.s.below hb x.s.lt,x.bl.trans (hb.mono (Nat.le_of_lt x.q.lt))⟩
def P1 (W1:World) (PV:Array Value) (v:Value) (W:World):Prop:=∃ a3,v=.pointer (some ⟨a3,0,none⟩)∧Hid (W1.heap.size=a3)∧Hid (Below a3 W1 W)∧Hid (BX W a3 PV 26)
theorem p1_of {W:World} {PV:Array Value}:P1 W PV (.pointer (some ⟨W.heap.size,0,none⟩)) ((W.alloc (.cells patZ 26)).setRow W.heap.size PV):=
 ⟨_,rfl,hid rfl,hid (((Below.refl _ _).alloc (Nat.le_refl _) _).setRow (Nat.le_refl _) _),hid (setRow_heap _ _ _ _ _ _ (BX.new W patZ 26))⟩
set_option maxHeartbeats 8000000 in
theorem qEV (s u:ByteArray) (z:Int) (d g mi pl pc pm cu e:ByteArray) (w:World) (hs:s.size≤1048576) (hu:u.size≤1048576) (hz : -2147483648≤z∧z≤2147483647) (ht:∀ k,k < 8→(tx8 d g mi pl pc pm cu e k).size≤1048576) :
 Calls Try.prog 5 #[.string s,.string u,.agg #[.int .i32 z,.string d,.string g,.string mi,.string pl,.string pc,.string pm,.string cu,.string e]] w fun e' w'=>e'=.returned (.bool true)∧Below w.heap.size w w':=by
 have HA:=hid (fun W=>qDX W)
 have HR:=hid (fun W=>qFU s W (by omega))
 have HNU:=hid (fun W=>refNum_c u W (by omega))
 have HF:=hid (qCS (qAF s)).1
 have HGP:=hid (fun p (h:compZ (bts s)=(p,0,0))=>gp_of (qAF s) h)
 have CG:=hid (fun W=>qE3 z d g mi pl pc pm cu e W hz fun k hk=>Nat.le_trans (ht k hk) (by decide))
 have hss:(Try.prog.info? 23).map (·.size)=some (#[.int .i32 z,.string d,.string g,.string mi,.string pl,.string pc,.string pm,.string cu,.string e]:Array Value).size:=by kernel_rfl
 generalize compZ (bts s)=CZ at *
 obtain ⟨p,ef,qf⟩:=CZ
 dsimp only at HR HF
 have HS:Hid (BX (w.alloc (.cells #[.int .i32 z,.string d,.string g,.string mi,.string pl,.string pc,.string pm,.string cu,.string e] 23)) w.heap.size #[.int .i32 z,.string d,.string g,.string mi,.string pl,.string pc,.string pm,.string cu,.string e] 23):=hid (BX.new _ _ _)
 have HB:Hid (Below w.heap.size w (w.alloc (.cells #[.int .i32 z,.string d,.string g,.string mi,.string pl,.string pc,.string pm,.string cu,.string e] 23))):=hid ((Below.refl _ _).alloc (Nat.le_refl _) _)
 go_enter Try.func5,Try.ntmps5
 go_upto_region 1 with fail
 generalize w.alloc (.cells #[.int .i32 z,.string d,.string g,.string mi,.string pl,.string pc,.string pm,.string cu,.string e] 23)=W0 at *
 generalize hgb:w.heap.size=b at *
 have HGB:=hid hgb
 have HB0:Hid (Below w.heap.size w W0):=hid (by rw [hgb]; exact HB.out)
 clear hgb HB
 go_cut [7,8] (M1 w b #[.int .i32 z,.string d,.string g,.string mi,.string pl,.string pc,.string pm,.string cu,.string e] p ef qf)
 case first=>
  go_wp2_with (first
   | go_skip
   | (go_at_call 6; refine (HR.out _).mono ?_; rintro e1 w1 ⟨PV1,rfl,hpt1,hb1⟩; obtain ⟨hsa,h20,hce⟩:=hpt1.out.sz)
   | (refine wpList_store_row rfl 26 _ _ rfl w1.heap.size PV1 rfl rfl 26 patZ ((BX.new w1 patZ 26).alloc _) hsa h20 hce ?_)
   | (refine wpList_store_row rfl 29 _ _ rfl (w1.heap.size+1) #[.int .i64 _,.int .i64 _] rfl rfl 29 _ (pb_f PV1) (qA6 _ _) rfl (qA9 _ _) ?_)
   | fail)
  go_meet
  exact m1_of (qHS hpt1.out hb1) HS.out HB0.out
 case rest=>
 obtain ⟨a,PVa,rfl,rfl,HM⟩:=hcut
 clear HS HB0 HR
 generalize hNC:(((numZ (bts u)).2:Nat):Int)=nc at *
 generalize (numZ (bts u)).1=N at *
 clear hNC
 go_upto_region 2 with fail
 go_cut [9,10] (N1 w b #[.int .i32 z,.string d,.string g,.string mi,.string pl,.string pc,.string pm,.string cu,.string e] a PVa p ef qf N nc)
 case first=>
  go_wp2_with (first
   | go_skip
   | (go_at_call 14; refine (HNU.out _).mono ?_; rintro e2 w2 ⟨rfl,hb2⟩)
   | (refine wpList_store_row rfl 26 _ _ rfl w2.heap.size (patN N) rfl rfl 26 patZ (BX.new w2 patZ 26) (qA3 _ _ _ _ _ N _ _ _) rfl (qA8 N) ?_)
   | fail)
  go_meet
  exact n1_of HM.out hb2
 case rest=>
 obtain ⟨a2,W2,rfl,rfl,HM2,HA2,HB2,HQ⟩:=hcut
 clear HM HNU
 have HMc:=hid (HM2.out.below (by rw [HA2.out]; exact HB2.out))
 have HBW:=hid HMc.out.bl
 go_upto_region 3 with fail
 have y0:=HMc.out.pb.bf.c 0
 by_cases h0:ef=0
 case neg=>
  have g2:(ef != 0)=true:=by simpa using h0
  clear h0
  go_wp2_with (first | go_skip | (go_at_call 8; refine (HA.out _).mono ?_; rintro e9 w9 ⟨rfl,hb9⟩) | fail)
  go_ret
  exact ⟨rfl,HBW.out.trans (hb9.mono HBW.out.size)⟩
 subst h0
 obtain rfl:qf=0:=HF.out rfl
 have HGp:=hid (HGP.out p rfl)
 clear HGP HF
 by_cases h1:nc=0
 case neg=>
  have g2:(nc != 0)=true:=by simpa using h1
  clear h1
  go_wp2_with (first | go_skip | (go_at_call 8; refine (HA.out _).mono ?_; rintro e9 w9 ⟨rfl,hb9⟩) | fail)
  go_ret
  exact ⟨rfl,HBW.out.trans (hb9.mono HBW.out.size)⟩
 subst h1
 by_cases h4:400 < s.size
 · have g4:decide ((400:Int) < (s.size:Int))=true:=decide_eq_true (by omega)
   clear h4
   go_wp2_with (first | go_skip | (go_at_call 8; refine (HA.out _).mono ?_; rintro e9 w9 ⟨rfl,hb9⟩) | fail)
   go_ret
   exact ⟨rfl,HBW.out.trans (hb9.mono HBW.out.size)⟩
 have g4:decide ((400:Int) < (s.size:Int))=false:=decide_eq_false (by omega)
 clear h4
 by_cases h5:100 < u.size
 · have g5:decide ((100:Int) < (u.size:Int))=true:=decide_eq_true (by omega)
   clear h5
   go_wp2_with (first | go_skip | (go_at_call 8; refine (HA.out _).mono ?_; rintro e9 w9 ⟨rfl,hb9⟩) | fail)
   go_ret
   exact ⟨rfl,HBW.out.trans (hb9.mono HBW.out.size)⟩
 have g5:decide ((100:Int) < (u.size:Int))=false:=decide_eq_false (by omega)
 clear h5
 go_wp2_with (first | go_skip | (refine qA1 rfl 23 _ rfl b rfl 23 #[.int .i32 z,.string d,.string g,.string mi,.string pl,.string pc,.string pm,.string cu,.string e] (0,0) _ HMc.out.bs Try.underlying23 rfl hss ?_) | fail)
 refine (CG.out _).mono ?_
 rintro e3 w3 ⟨rfl,hb3⟩
 have hb4:=hb3.out.mono (B':=a2) (by have h1:=HB2.out.size; have h2:=HA2.out; omega)
 have HB3:=hid (HB2.out.trans hb4)
 have HQ3:=hid (HQ.out.below hb3.out HQ.out.lt)
 have HM3:=hid (HMc.out.below hb3.out)
 have HBW:=hid HM3.out.bl
 clear hb3 hb4 y0 CG g4 g5 HMc HB2 HQ
 rcases hg:qD1 z (tx8 d g mi pl pc pm cu e) with _ | _
 · clear hg
   go_wp2_with (first | go_skip | (go_at_call 8; refine (HA.out _).mono ?_; rintro e9 w9 ⟨rfl,hb9⟩) | fail)
   go_ret
   exact ⟨rfl,HBW.out.trans (hb9.mono HBW.out.size)⟩
 obtain ⟨Z,rfl⟩:∃ Z:Nat,z=(Z:Int):=⟨z.toNat,by have:=qBP.1 (qAA.1 hg).2; omega⟩
 obtain ⟨A0,n0,c0,A1,n1,c1,A3,n3,c3,A4,n4,c4,hpv,hi0,hi1,hi3,hi4⟩:=HM2.out.pb.pt
 have HPT:Hid (∀ (W:World) (M:NF),Below a2 W2 W→Ptv W (patV (.slice A0 n0 c0) (.slice A1 n1 c1) (.bool p.neg) (.slice A3 n3 c3) (.slice A4 n4 c4) M (.int .i64 0) (.int .i32 0) (.int .i64 0)) { p with num:=M,at_:=0,pad:=0,width:=0 }):=hid fun W M hb=>by
  have hb':Below W2.heap.size W2 W:=by rw [HA2.out]; exact hb
  exact ⟨A0,n0,c0,A1,n1,c1,A3,n3,c3,A4,n4,c4,rfl,hi0.below hb',hi1.below hb',hi3.below hb',hi4.below hb'⟩
 have KA:Hid (∀ (W:World) (M:NF),Ptv W (patV (.slice A0 n0 c0) (.slice A1 n1 c1) (.bool p.neg) (.slice A3 n3 c3) (.slice A4 n4 c4) M (.int .i64 0) (.int .i32 0) (.int .i64 0)) { p with num:=M,at_:=0,pad:=0,width:=0 }→Calls Try.prog 11 #[.agg (patV (.slice A0 n0 c0) (.slice A1 n1 c1) (.bool p.neg) (.slice A3 n3 c3) (.slice A4 n4 c4) M (.int .i64 0) (.int .i32 0) (.int .i64 0)),.agg #[.int .i32 (Z:Int),.string d,.string g,.string mi,.string pl,.string pc,.string pm,.string cu,.string e]] W fun e' w'=>e'=.returned (.bool (clr Z 0 0 (txtI (tx5 mi pl pc pm cu) p.pre) (txtI (tx5 mi pl pc pm cu) p.suf) (txtI (tx5 mi pl pc pm cu) p.npre) (txtI (tx5 mi pl pc pm cu) p.nsuf) d g mi pl e))∧Below W.heap.size W w'):=hid fun W M h=>
  qEF (patV (.slice A0 n0 c0) (.slice A1 n1 c1) (.bool p.neg) (.slice A3 n3 c3) (.slice A4 n4 c4) M (.int .i64 0) (.int .i32 0) (.int .i64 0)) { p with num:=M,at_:=0,pad:=0,width:=0 } Z d g mi pl pc pm cu e W h ⟨⟨HGp.out.afx.a,HGp.out.afx.b,HGp.out.afx.c,HGp.out.afx.d⟩,Int.le_refl 0,rfl⟩ hg
 generalize clr Z 0 0 (txtI (tx5 mi pl pc pm cu) p.pre) (txtI (tx5 mi pl pc pm cu) p.suf) (txtI (tx5 mi pl pc pm cu) p.npre) (txtI (tx5 mi pl pc pm cu) p.nsuf) d g mi pl e=X at *
 clear hg hz ht HGp hi0 hi1 hi3 hi4
 have hs2:=HM2.out.pb.pt.sz.1
 have HV:Hid (PVa[0]? = some (.slice A0 n0 c0)∧PVa[1]? = some (.slice A1 n1 c1)∧PVa[2]? = some (.bool p.neg)∧PVa[3]? = some (.slice A3 n3 c3)∧PVa[4]? = some (.slice A4 n4 c4)):=hid (by rw [hpv]; exact ⟨rfl,rfl,rfl,rfl,rfl⟩)
 have HPV:=hid hpv
 clear hpv
 go_wp2_with (first | go_skip | fail)
 go_upto_region 5 with fail
 refine wp_region_held_drew (S:=(fun W':World=>Hid (Below a2 W2 W')∧Hid (∃ vs,BX W' a2 vs 26))) (by kernel_rfl) (⟨hid HB3.out.drew,hid ⟨_,HQ3.out⟩⟩) (fun hHeld=>?_)
 have hq:BX w3.drew a2 (patN N) 26:=HQ3.out
 generalize w3.drew=W5 at *
 refine' qt 0 hHeld ?_
 try simp only [pk]
 refine' qt (v:=.slice A0 n0 c0) 1 hHeld ?_ (hy:=by intro w hSw; have k:=(HM2.out.below (by rw [HA2.out]; exact hSw.1.out)).pb.bp.v 0 HV.out.1; clear hSw; go_simp)
 try simp only [pk]
 refine' qt 2 hHeld ?_
 try simp only [pk]
 refine' qt (v:=.slice A1 n1 c1) 3 hHeld ?_ (hy:=by intro w hSw; have k:=(HM2.out.below (by rw [HA2.out]; exact hSw.1.out)).pb.bp.v 1 HV.out.2.1; clear hSw; go_simp)
 try simp only [pk]
 refine' qt 4 hHeld ?_
 try simp only [pk]
 refine' qt (v:=.bool p.neg) 5 hHeld ?_ (hy:=by intro w hSw; have k:=(HM2.out.below (by rw [HA2.out]; exact hSw.1.out)).pb.bp.v 2 HV.out.2.2.1; clear hSw; go_simp)
 try simp only [pk]
 refine' qt 6 hHeld ?_
 try simp only [pk]
 refine' qt (v:=.slice A3 n3 c3) 7 hHeld ?_ (hy:=by intro w hSw; have k:=(HM2.out.below (by rw [HA2.out]; exact hSw.1.out)).pb.bp.v 3 HV.out.2.2.2.1; clear hSw; go_simp)
 try simp only [pk]
 refine' qt 8 hHeld ?_
 try simp only [pk]
 refine' qt (v:=.slice A4 n4 c4) 9 hHeld ?_ (hy:=by intro w hSw; have k:=(HM2.out.below (by rw [HA2.out]; exact hSw.1.out)).pb.bp.v 4 HV.out.2.2.2.2; clear hSw; go_simp)
 try simp only [pk]
 refine' qt 10 hHeld ?_
 try simp only [pk]
 refine qp 11 fun K hK=>?_
 have kc:=hq.v 0 rfl
 have kf:=hq.fr 0
 go_simp
 have hq:BX _ a2 _ 26:=heap_setCell_same _ a2 0 _ _ (.slice A0 n0 c0) hq
 have hS:(Hid (Below a2 W2 _))∧(Hid (∃ vs,BX _ a2 vs 26)):=⟨hid (hHeld.1.out.setCell (p:=⟨a2,0,none⟩) (Nat.le_refl _) (.slice A0 n0 c0)),hid ⟨_,hq⟩⟩
 clear hHeld kc kf
 refine hK.out _ _ hS (fun hHeld=>?_)
 clear hK K hS
 generalize W5.setCell ⟨a2,0,none⟩ (.slice A0 n0 c0)=W6 at *
 try simp only [pk]
 refine' qt 12 hHeld ?_
 try simp only [pk]
 refine qp 13 fun K hK=>?_
 have kc:=hq.v 1 rfl
 have kf:=hq.fr 1
 go_simp
 have hq:BX _ a2 _ 26:=heap_setCell_same _ a2 1 _ _ (.slice A1 n1 c1) hq
 have hS:(Hid (Below a2 W2 _))∧(Hid (∃ vs,BX _ a2 vs 26)):=⟨hid (hHeld.1.out.setCell (p:=⟨a2,1,none⟩) (Nat.le_refl _) (.slice A1 n1 c1)),hid ⟨_,hq⟩⟩
 clear hHeld kc kf
 refine hK.out _ _ hS (fun hHeld=>?_)
 clear hK K hS
 generalize W6.setCell ⟨a2,1,none⟩ (.slice A1 n1 c1)=W7 at *
 try simp only [pk]
 refine' qt 14 hHeld ?_
 try simp only [pk]
 refine qp 15 fun K hK=>?_
 have kc:=hq.v 2 rfl
 have kf:=hq.fr 2
 go_simp
 have hq:BX _ a2 _ 26:=heap_setCell_same _ a2 2 _ _ (.bool p.neg) hq
 have hS:(Hid (Below a2 W2 _))∧(Hid (∃ vs,BX _ a2 vs 26)):=⟨hid (hHeld.1.out.setCell (p:=⟨a2,2,none⟩) (Nat.le_refl _) (.bool p.neg)),hid ⟨_,hq⟩⟩
 clear hHeld kc kf
 refine hK.out _ _ hS (fun hHeld=>?_)
 clear hK K hS
 generalize W7.setCell ⟨a2,2,none⟩ (.bool p.neg)=W8 at *
 try simp only [pk]
 refine' qt 16 hHeld ?_
 try simp only [pk]
 refine qp 17 fun K hK=>?_
 have kc:=hq.v 3 rfl
 have kf:=hq.fr 3
 go_simp
 have hq:BX _ a2 _ 26:=heap_setCell_same _ a2 3 _ _ (.slice A3 n3 c3) hq
 have hS:(Hid (Below a2 W2 _))∧(Hid (∃ vs,BX _ a2 vs 26)):=⟨hid (hHeld.1.out.setCell (p:=⟨a2,3,none⟩) (Nat.le_refl _) (.slice A3 n3 c3)),hid ⟨_,hq⟩⟩
 clear hHeld kc kf
 refine hK.out _ _ hS (fun hHeld=>?_)
 clear hK K hS
 generalize W8.setCell ⟨a2,3,none⟩ (.slice A3 n3 c3)=W9 at *
 try simp only [pk]
 refine' qt 18 hHeld ?_
 try simp only [pk]
 refine qp 19 fun K hK=>?_
 have kc:=hq.v 4 rfl
 have kf:=hq.fr 4
 go_simp
 have hq:BX _ a2 _ 26:=heap_setCell_same _ a2 4 _ _ (.slice A4 n4 c4) hq
 have hS:(Hid (Below a2 W2 _))∧(Hid (∃ vs,BX _ a2 vs 26)):=⟨hid (hHeld.1.out.setCell (p:=⟨a2,4,none⟩) (Nat.le_refl _) (.slice A4 n4 c4)),hid ⟨_,hq⟩⟩
 clear hHeld kc kf
 refine hK.out _ _ hS (fun hHeld=>?_)
 clear hK K hS
 generalize W9.setCell ⟨a2,4,none⟩ (.slice A4 n4 c4)=W10 at *
 try simp only [pk]
 refine wpAnyH_done (by kernel_rfl) ?_ _
 have HQ5:Hid (BX W10 a2 (patV (.slice A0 n0 c0) (.slice A1 n1 c1) (.bool p.neg) (.slice A3 n3 c3) (.slice A4 n4 c4) N (.int .i64 0) (.int .i32 0) (.int .i64 0)) 26):=hid hq
 have HB5:=hHeld.1
 have HM5:=hid (HM2.out.below (by rw [HA2.out]; exact HB5.out))
 obtain ⟨hsa,h20,hce⟩:=HM2.out.pb.pt.sz
 have HBW:=hid HM5.out.bl
 clear hq hHeld HV HQ3 HB3 HM3
 go_upto_region 6 with fail
 go_cut [11] (P1 W10 PVa)
 case first=>
  go_wp2_with (first
   | go_skip
   | (refine qA1 rfl 26 _ rfl a rfl 26 PVa (0,0) _ HM5.out.pb.bp Try.underlying26 rfl hsa ?_)
   | (refine wpList_store_row rfl 26 _ _ rfl W10.heap.size PVa rfl rfl 26 patZ (BX.new W10 patZ 26) hsa h20 hce ?_)
   | fail)
  go_meet
  exact p1_of
 case rest=>
 obtain ⟨a3,rfl,HA3,HB6,HQ6⟩:=hcut
 have hq6:=HQ6.out
 rw [HPV.out] at hq6
 have k17:=hq6.v 17 rfl
 have k18:=hq6.v 18 rfl
 have k19:=hq6.v 19 rfl
 have f17:=hq6.fr 17
 have f18:=hq6.fr 18
 have f19:=hq6.fr 19
 have hq7:BX _ a3 _ 26:=heap_setCell_same _ a3 19 _ _ (.int .i64 0) (heap_setCell_same _ a3 18 _ _ (.int .i32 0) (heap_setCell_same _ a3 17 _ _ (.int .i64 0) hq6))
 have hb7:=(((HB6.out.setCell (p:=⟨a3,17,none⟩) (Nat.le_refl _) (.int .i64 0)).setCell (p:=⟨a3,18,none⟩) (Nat.le_refl _) (.int .i32 0)).setCell (p:=⟨a3,19,none⟩) (Nat.le_refl _) (.int .i64 0))
 have HQ7:=hid hq7
 have HB7:=hid hb7
 clear hq6 hq7 hb7
 go_upto_region 8 with fail
 generalize ((wc.setCell ⟨a3,17,none⟩ (.int .i64 0)).setCell ⟨a3,18,none⟩ (.int .i32 0)).setCell ⟨a3,19,none⟩ (.int .i64 0)=W7 at *
 have HN:Hid (NB W2 b a2 a3 #[.int .i32 (Z:Int),.string d,.string g,.string mi,.string pl,.string pc,.string pm,.string cu,.string e] (patV (.slice A0 n0 c0) (.slice A1 n1 c1) (.bool p.neg) (.slice A3 n3 c3) (.slice A4 n4 c4) N (.int .i64 0) (.int .i32 0) (.int .i64 0)) (patV (.slice A0 n0 c0) (.slice A1 n1 c1) (.bool p.neg) (.slice A3 n3 c3) (.slice A4 n4 c4) p.num (.int .i64 0) (.int .i32 0) (.int .i64 0)) W7):=hid (by
  have h1:=HQ5.out.lt;have h2:=HM5.out.bs.lt;have h3:=HA3.out;exact ⟨HQ5.out.below HB7.out (by omega),HQ7.out,HM5.out.bs.below HB7.out (by omega),HB5.out.trans (HB7.out.mono (by omega))⟩)
 have HBF:Hid (w.heap.size≤a2):=hid (by rw [← HA2.out]; exact HM2.out.bl.size)
 have HBl:=hid HM2.out.bl
 clear k17 k18 k19 f17 f18 f19 HQ5 HQ6 HQ7 HB5 HB6 HB7 HM5 HM2 HA2 HA3 hsa h20 hce
 refine wp_region_held_drew (S:=(fun W':World=>Hid (NB W2 b a2 a3 #[.int .i32 (Z:Int),.string d,.string g,.string mi,.string pl,.string pc,.string pm,.string cu,.string e] (patV (.slice A0 n0 c0) (.slice A1 n1 c1) (.bool p.neg) (.slice A3 n3 c3) (.slice A4 n4 c4) N (.int .i64 0) (.int .i32 0) (.int .i64 0)) (patV (.slice A0 n0 c0) (.slice A1 n1 c1) (.bool p.neg) (.slice A3 n3 c3) (.slice A4 n4 c4) p.num (.int .i64 0) (.int .i32 0) (.int .i64 0)) W'))) (by kernel_rfl) (hid HN.out.drew) (fun hHeld=>?_)
 refine qk 0 (HA.out _) (fun W' h=>hid (hHeld.out.below h)) fun W9 hHeld _=>?_
 try simp only [pk]
 refine' qt 1 hHeld ?_
 try simp only [pk]
 refine ql 2 hHeld (fun _ h=>h.out.q) Try.underlying26 (qA3 _ _ _ _ _ _ _ _ _) ?_
 try simp only [pk]
 refine ql 3 hHeld (fun _ h=>h.out.s) Try.underlying23 hss ?_
 try simp only [pk]
 refine ql 5 hHeld (fun _ h=>h.out.r) Try.underlying26 (qA3 _ _ _ _ _ _ _ _ _) ?_
 try simp only [pk]
 refine ql 6 hHeld (fun _ h=>h.out.s) Try.underlying23 hss ?_
 try simp only [pk]
 refine qk 4 (KA.out _ _ (HPT.out _ _ hHeld.out.bl)) (fun W' h=>hid (hHeld.out.below h)) fun W9 hHeld _=>?_
 try simp only [pk]
 refine qk 7 (KA.out _ _ (HPT.out _ _ hHeld.out.bl)) (fun W' h=>hid (hHeld.out.below h)) fun W9 hHeld _=>?_
 try simp only [pk]
 refine' qt (v:=.bool true) 8 hHeld ?_ (hy:=by intro w hSw; clear hSw; go_simp)
 try simp only [pk]
 refine' qt 9 hHeld ?_
 try simp only [pk]
 refine' qt 10 hHeld ?_
 try simp only [pk]
 refine wpAnyH_done (by kernel_rfl) ?_ _
 go_wp2
 go_ret
 exact ⟨rfl,HBl.out.trans (hHeld.out.bl.mono HBF.out)⟩
end Go.Proofs.Ytohfadegildnaaa
