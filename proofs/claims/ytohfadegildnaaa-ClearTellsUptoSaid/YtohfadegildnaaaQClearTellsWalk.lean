import Derived.Test.YtohfadegildnaaaQCE
set_option linter.all false
set_option maxRecDepth 100000
set_option linter.unusedVariables false
namespace Go.Proofs.Ytohfadegildnaaa
open Go.RowKit
open Lib (hid)
set_option maxHeartbeats 8000000 in
theorem qFA (s:ByteArray) (z:Int) (d g mi pl pc pm cu e:ByteArray) (w:World) (hs:s.size≤1048576) (hz : -2147483648≤z∧z≤2147483647) (ht:∀ k,k < 8→(tx8 d g mi pl pc pm cu e k).size≤1048576) :
 Calls Try.prog 3 #[.string s,.agg #[.int .i32 z,.string d,.string g,.string mi,.string pl,.string pc,.string pm,.string cu,.string e]] w fun e' w'=>e'=.returned (.bool true)∧Below w.heap.size w w':=by
 have HA:=hid (fun W=>qDX W)
 have HR:=hid (fun W=>qFU s W (by omega))
 have HF:=hid (qCS (qAF s)).1
 have HGP:=hid (fun p (h:compZ (bts s)=(p,0,0))=>gp_of (qAF s) h)
 have CG:=hid (fun W=>qE3 z d g mi pl pc pm cu e W hz fun k hk=>Nat.le_trans (ht k hk) (by decide))
 have hss:(Try.prog.info? 23).map (·.size)=some (#[.int .i32 z,.string d,.string g,.string mi,.string pl,.string pc,.string pm,.string cu,.string e]:Array Value).size:=by kernel_rfl
 generalize compZ (bts s)=CZ at *
 obtain ⟨p,ef,qf⟩:=CZ
 dsimp only at HR HF
 have HS:Hid (BX (w.alloc (.cells #[.int .i32 z,.string d,.string g,.string mi,.string pl,.string pc,.string pm,.string cu,.string e] 23)) w.heap.size #[.int .i32 z,.string d,.string g,.string mi,.string pl,.string pc,.string pm,.string cu,.string e] 23):=hid (BX.new _ _ _)
 have HB:Hid (Below w.heap.size w (w.alloc (.cells #[.int .i32 z,.string d,.string g,.string mi,.string pl,.string pc,.string pm,.string cu,.string e] 23))):=hid ((Below.refl _ _).alloc (Nat.le_refl _) _)
 go_enter Try.func3,Try.ntmps3
 go_upto_region 1 with fail
 generalize w.alloc (.cells #[.int .i32 z,.string d,.string g,.string mi,.string pl,.string pc,.string pm,.string cu,.string e] 23)=W0 at *
 generalize hgb:w.heap.size=b at *
 have HGB:=hid hgb
 have HB0:Hid (Below w.heap.size w W0):=hid (by rw [hgb]; exact HB.out)
 clear hgb HB
 go_cut [5,6] (M1 w b #[.int .i32 z,.string d,.string g,.string mi,.string pl,.string pc,.string pm,.string cu,.string e] p ef qf)
 case first=>
  go_wp2_with (first
   | go_skip
   | (go_at_call 6; refine (HR.out _).mono ?_; rintro e1 w1 ⟨PV1,rfl,hpt1,hb1⟩; obtain ⟨hsa,h20,hce⟩:=hpt1.out.sz)
   | (refine wpList_store_row rfl 26 _ _ rfl w1.heap.size PV1 rfl rfl 26 patZ ((BX.new w1 patZ 26).alloc _) hsa h20 hce ?_)
   | (refine wpList_store_row rfl 29 _ _ rfl (w1.heap.size+1) #[.int .i64 _,.int .i64 _] rfl rfl 29 _ (pb_f PV1) (qA6 _ _) rfl (qA9 _ _) ?_)
   | fail)
  go_meet
  exact m1_of (qHS hpt1.out hb1) HS.out HB0.out
 case rest=>
 obtain ⟨a,PVa,rfl,rfl,HM⟩:=hcut
 clear HS HB0 HR
 go_upto_region 2 with fail
 have y0:=HM.out.pb.bf.c 0
 have hsz:=HM.out.pb.pt.sz.1
 by_cases h0:ef=0
 case neg=>
  have g2:(ef != 0)=true:=by simpa using h0
  clear h0
  go_wp2_with (first | go_skip | (go_at_call 8; refine (HA.out _).mono ?_; rintro e9 w9 ⟨rfl,hb9⟩) | fail)
  go_ret
  exact ⟨rfl,HM.out.bl.trans (hb9.mono HM.out.bl.size)⟩
 subst h0
 obtain rfl:qf=0:=HF.out rfl
 have HGp:=hid (HGP.out p rfl)
 clear HGP HF
 by_cases h4:400 < s.size
 · have g4:decide ((400:Int) < (s.size:Int))=true:=decide_eq_true (by omega)
   clear h4
   go_wp2_with (first | go_skip | (go_at_call 8; refine (HA.out _).mono ?_; rintro e9 w9 ⟨rfl,hb9⟩) | fail)
   go_ret
   exact ⟨rfl,HM.out.bl.trans (hb9.mono HM.out.bl.size)⟩
 have g4:decide ((400:Int) < (s.size:Int))=false:=decide_eq_false (by omega)
 clear h4
 go_wp2_with (first | go_skip | (refine qA1 rfl 23 _ rfl b rfl 23 #[.int .i32 z,.string d,.string g,.string mi,.string pl,.string pc,.string pm,.string cu,.string e] (0,0) _ HM.out.bs Try.underlying23 rfl hss ?_) | fail)
 refine (CG.out _).mono ?_
 rintro e2 w2 ⟨rfl,hb2⟩
 have HM2:=hid (HM.out.below hb2.out)
 clear hb2 HM y0 CG g4
 rcases hg:qD1 z (tx8 d g mi pl pc pm cu e) with _ | _
 · clear hg
   go_wp2_with (first | go_skip | (go_at_call 8; refine (HA.out _).mono ?_; rintro e9 w9 ⟨rfl,hb9⟩) | fail)
   go_ret
   exact ⟨rfl,HM2.out.bl.trans (hb9.mono HM2.out.bl.size)⟩
 obtain ⟨Z,rfl⟩:∃ Z:Nat,z=(Z:Int):=⟨z.toNat,by have:=qBP.1 (qAA.1 hg).2; omega⟩
 have KA:=hid (fun W (h:Ptv W PVa p)=>qEF PVa p Z d g mi pl pc pm cu e W h HGp.out hg)
 have KB:=hid (fun W (h:Ptv W PVa p)=>refClear_g PVa p Z d g mi pl pc pm cu e W h HGp.out hg)
 have C1:Hid (∀ W,Ptv W PVa p→Calls Try.prog 9 #[.agg PVa,.agg #[.int .i32 (Z:Int),.string d,.string g,.string mi,.string pl,.string pc,.string pm,.string cu,.string e],.bool false] W fun e' w'=>e'=.returned (.tuple #[.string (txtI (tx5 mi pl pc pm cu) p.pre),.string (txtI (tx5 mi pl pc pm cu) p.suf)])∧Hid (Below W.heap.size W w')):=hid fun W h=>qF9 PVa p Z d g mi pl pc pm cu e false W h HGp.out.afx (qBI hg)
 have C2:Hid (∀ W,Ptv W PVa p→Calls Try.prog 9 #[.agg PVa,.agg #[.int .i32 (Z:Int),.string d,.string g,.string mi,.string pl,.string pc,.string pm,.string cu,.string e],.bool true] W fun e' w'=>e'=.returned (.tuple #[.string (txtI (tx5 mi pl pc pm cu) p.npre),.string (txtI (tx5 mi pl pc pm cu) p.nsuf)])∧Hid (Below W.heap.size W w')):=hid fun W h=>qF9 PVa p Z d g mi pl pc pm cu e true W h HGp.out.afx (qBI hg)
 have C3:Hid (∀ W,Ptv W PVa p→Calls Try.prog 10 #[.agg PVa,.agg #[.int .i32 (Z:Int),.string d,.string g,.string mi,.string pl,.string pc,.string pm,.string cu,.string e],.bool false] W fun e' w'=>e'=.returned (.tuple #[.string (txtI (tx5 mi pl pc pm cu) p.pre),.string (txtI (tx5 mi pl pc pm cu) p.suf)])∧Hid (Below W.heap.size W w')):=hid fun W h=>qE4 PVa p Z d g mi pl pc pm cu e false W h HGp.out.afx (qBI hg)
 have C4:Hid (∀ W,Ptv W PVa p→Calls Try.prog 10 #[.agg PVa,.agg #[.int .i32 (Z:Int),.string d,.string g,.string mi,.string pl,.string pc,.string pm,.string cu,.string e],.bool true] W fun e' w'=>e'=.returned (.tuple #[.string (txtI (tx5 mi pl pc pm cu) p.npre),.string (txtI (tx5 mi pl pc pm cu) p.nsuf)])∧Hid (Below W.heap.size W w')):=hid fun W h=>qE4 PVa p Z d g mi pl pc pm cu e true W h HGp.out.afx (qBI hg)
 clear hg hz ht HGp
 generalize clr Z p.at_ p.pad (txtI (tx5 mi pl pc pm cu) p.pre) (txtI (tx5 mi pl pc pm cu) p.suf) (txtI (tx5 mi pl pc pm cu) p.npre) (txtI (tx5 mi pl pc pm cu) p.nsuf) d g mi pl e=X at *
 generalize txtI (tx5 mi pl pc pm cu) p.pre=ta at *
 generalize txtI (tx5 mi pl pc pm cu) p.suf=tb at *
 generalize txtI (tx5 mi pl pc pm cu) p.npre=tc at *
 generalize txtI (tx5 mi pl pc pm cu) p.nsuf=te at *
 go_wp2_with (first | go_skip | (refine qA1 rfl 23 _ rfl b rfl 23 #[.int .i32 (Z:Int),.string d,.string g,.string mi,.string pl,.string pc,.string pm,.string cu,.string e] (0,0) _ HM2.out.bs Try.underlying23 rfl hss ?_) | (refine qA1 rfl 26 _ rfl a rfl 26 PVa (0,0) _ HM2.out.pb.bp Try.underlying26 rfl hsz ?_) | fail)
 refine (C1.out _ HM2.out.pb.pt).mono ?_
 rintro e3 w3 ⟨rfl,hb3⟩
 have HM3:=hid (HM2.out.below hb3.out)
 clear C1 HM2 hb3
 go_wp2_with (first | go_skip | (refine qA1 rfl 23 _ rfl b rfl 23 #[.int .i32 (Z:Int),.string d,.string g,.string mi,.string pl,.string pc,.string pm,.string cu,.string e] (0,0) _ HM3.out.bs Try.underlying23 rfl hss ?_) | (refine qA1 rfl 26 _ rfl a rfl 26 PVa (0,0) _ HM3.out.pb.bp Try.underlying26 rfl hsz ?_) | fail)
 refine (C2.out _ HM3.out.pb.pt).mono ?_
 rintro e4 w4 ⟨rfl,hb4⟩
 have HM4:=hid (HM3.out.below hb4.out)
 clear C2 HM3 hb4
 go_wp2_with (first | go_skip | (refine qA1 rfl 23 _ rfl b rfl 23 #[.int .i32 (Z:Int),.string d,.string g,.string mi,.string pl,.string pc,.string pm,.string cu,.string e] (0,0) _ HM4.out.bs Try.underlying23 rfl hss ?_) | (refine qA1 rfl 26 _ rfl a rfl 26 PVa (0,0) _ HM4.out.pb.bp Try.underlying26 rfl hsz ?_) | fail)
 refine (C3.out _ HM4.out.pb.pt).mono ?_
 rintro e5 w5 ⟨rfl,hb5⟩
 have HM5:=hid (HM4.out.below hb5.out)
 clear C3 HM4 hb5
 go_wp2_with (first | go_skip | (refine qA1 rfl 23 _ rfl b rfl 23 #[.int .i32 (Z:Int),.string d,.string g,.string mi,.string pl,.string pc,.string pm,.string cu,.string e] (0,0) _ HM5.out.bs Try.underlying23 rfl hss ?_) | (refine qA1 rfl 26 _ rfl a rfl 26 PVa (0,0) _ HM5.out.pb.bp Try.underlying26 rfl hsz ?_) | fail)
 refine (C4.out _ HM5.out.pb.pt).mono ?_
 rintro e6 w6 ⟨rfl,hb6⟩
 have HM6:=hid (HM5.out.below hb6.out)
 clear C4 HM5 hb6
 go_upto_region 8 with fail
 refine wp_region_held_drew (S:=(fun W':World=>Hid (MB w b #[.int .i32 (Z:Int),.string d,.string g,.string mi,.string pl,.string pc,.string pm,.string cu,.string e] a PVa 0 0 p W'))) (by kernel_rfl) (hid HM6.out.drew) (fun hHeld=>?_)
 refine qk 0 (HA.out _) (fun W' h=>hid (hHeld.out.below h)) fun W9 hHeld _=>?_
 try simp only [pk]
 refine' qt 1 hHeld ?_
 try simp only [pk]
 refine ql 2 hHeld (fun _ h=>h.out.pb.bp) Try.underlying26 hsz ?_
 try simp only [pk]
 refine ql 3 hHeld (fun _ h=>h.out.bs) Try.underlying23 hss ?_
 try simp only [pk]
 refine ql 5 hHeld (fun _ h=>h.out.pb.bp) Try.underlying26 hsz ?_
 try simp only [pk]
 refine ql 6 hHeld (fun _ h=>h.out.bs) Try.underlying23 hss ?_
 try simp only [pk]
 refine qk 4 (KA.out _ hHeld.out.pb.pt) (fun W' h=>hid (hHeld.out.below h)) fun W9 hHeld _=>?_
 try simp only [pk]
 refine qk 7 (KB.out _ hHeld.out.pb.pt) (fun W' h=>hid (hHeld.out.below h)) fun W9 hHeld _=>?_
 try simp only [pk]
 refine' qt (v:=.bool true) 8 hHeld ?_ (hy:=by intro w hSw; clear hSw; go_simp)
 try simp only [pk]
 refine' qt 9 hHeld ?_
 try simp only [pk]
 refine' qt 10 hHeld ?_
 try simp only [pk]
 refine' qt 11 hHeld ?_
 try simp only [pk]
 refine' qt 12 hHeld ?_
 try simp only [pk]
 refine' qt (v:=.bool true) 13 hHeld ?_ (hy:=by intro w hSw; clear hSw; go_simp)
 try simp only [pk]
 refine' qt 14 hHeld ?_
 try simp only [pk]
 refine' qt 15 hHeld ?_
 try simp only [pk]
 refine' qt 16 hHeld ?_
 try simp only [pk]
 refine' qt 17 hHeld ?_
 try simp only [pk]
 refine' qt (v:=.bool true) 18 hHeld ?_ (hy:=by intro w hSw; clear hSw; go_simp)
 try simp only [pk]
 refine' qt 19 hHeld ?_
 try simp only [pk]
 refine' qt 20 hHeld ?_
 try simp only [pk]
 refine' qt 21 hHeld ?_
 try simp only [pk]
 refine' qt 22 hHeld ?_
 try simp only [pk]
 refine' qt (v:=.bool true) 23 hHeld ?_ (hy:=by intro w hSw; clear hSw; go_simp)
 try simp only [pk]
 refine' qt 24 hHeld ?_
 try simp only [pk]
 refine' qt 25 hHeld ?_
 try simp only [pk]
 refine' qt 26 hHeld ?_
 try simp only [pk]
 refine' qt 27 hHeld ?_
 try simp only [pk]
 refine' qt (v:=.bool true) 28 hHeld ?_ (hy:=by intro w hSw; clear hSw; go_simp)
 try simp only [pk]
 refine' qt 29 hHeld ?_
 try simp only [pk]
 refine' qt 30 hHeld ?_
 try simp only [pk]
 refine wpAnyH_done (by kernel_rfl) ?_ _
 go_wp2
 go_ret
 exact ⟨rfl,hHeld.out.bl⟩
end Go.Proofs.Ytohfadegildnaaa
