import Derived.Test.YtohfadegildnaaaQCE
set_option linter.all false
set_option maxRecDepth 100000
set_option linter.unusedVariables false
namespace Go.Proofs.Ytohfadegildnaaa
open Go.RowKit
open Lib (hid)
theorem clr_two {Z:Nat} {at_ pad:Int} {a b c e D G M P E:ByteArray} (h:clr Z at_ pad a b c e D G M P E=true) :
 (∀ x ∈ [a,b,c,e,D,G,M,P,E],nfr Z at_ pad x=false)∧(decide (at_≠0) && inS Z pad.toNat)=false∧(decide (bts a=bts c) && decide (bts b=bts e))=false:=by
 unfold clr at h
 rw [Bool.and_eq_true,Bool.and_eq_true,Bool.and_eq_true] at h
 obtain ⟨h1,h2,h3,-⟩:=h
 rw [Bool.not_eq_true'] at h1 h2
 refine ⟨fun x hx=>?_,h2,?_⟩
 · have:=List.any_eq_false.1 h1 x hx
   simpa using this
 · cases h4:decide (bts a=bts c)
   · rfl
   · rw [h4] at h3
     cases h5:decide (bts b=bts e)
     · rfl
     · rw [h5] at h3; exact absurd h3 (by decide)
theorem qBO {s t:ByteArray} (hs:Vt s) (ht:Vt t) {zs:List Int} (h1:hasZ s zs=false) (h2:hasZ t zs=false):hasZ (s++t) zs=false:=by
 unfold hasZ at *
 rw [(qF8 hs ht).2,qFD,List.any_append,h1,h2]; rfl
theorem nfr_no {Z:Nat} {at_ pad:Int} {t:ByteArray} (h:nfr Z at_ pad t=false):(∀ k:Nat,k < 10→hasZ t [(Z:Int)+(k:Int)]=false)∧(at_≠0→hasZ t [pad]=false):=by
 rw [nfr_eq,Bool.or_eq_false_iff] at h
 refine ⟨fun k hk=>?_,fun h0=>?_⟩
 · have h1:=h.1
   rw [qG9] at h1;rw [hasZ_one];refine List.any_eq_false.2 fun r hr=>?_
   have h2:=List.any_eq_false.1 h1 r hr;intro h3;exact h2 (qH1.2 (by have:=of_decide_eq_true h3; omega))
 · have h1:=h.2
   rw [decide_eq_true h0] at h1;exact h1
set_option maxHeartbeats 8000000 in
theorem qGB (s:ByteArray) (z:Int) (d g mi pl pc pm cu e:ByteArray) (w:World) (hs:s.size≤1048576) (hz : -2147483648≤z∧z≤2147483647) (ht:∀ k,k < 8→(tx8 d g mi pl pc pm cu e k).size≤1048576) :
 Calls Try.prog 4 #[.string s,.agg #[.int .i32 z,.string d,.string g,.string mi,.string pl,.string pc,.string pm,.string cu,.string e]] w fun e' w'=>e'=.returned (.bool true)∧Below w.heap.size w w':=by
 have HA:=hid (fun W=>qDX W)
 have HR:=hid (fun W=>qFU s W (by omega))
 have HF:=hid (qCS (qAF s)).1
 have HGP:=hid (fun p (h:compZ (bts s)=(p,0,0))=>gp_of (qAF s) h)
 have CG:=hid (fun W=>qE3 z d g mi pl pc pm cu e W hz fun k hk=>Nat.le_trans (ht k hk) (by decide))
 have hss:(Try.prog.info? 23).map (·.size)=some (#[.int .i32 z,.string d,.string g,.string mi,.string pl,.string pc,.string pm,.string cu,.string e]:Array Value).size:=by kernel_rfl
 generalize compZ (bts s)=CZ at *
 obtain ⟨p,ef,qf⟩:=CZ
 dsimp only at HR HF
 have HS:Hid (BX (w.alloc (.cells #[.int .i32 z,.string d,.string g,.string mi,.string pl,.string pc,.string pm,.string cu,.string e] 23)) w.heap.size #[.int .i32 z,.string d,.string g,.string mi,.string pl,.string pc,.string pm,.string cu,.string e] 23):=hid (BX.new _ _ _)
 have HB:Hid (Below w.heap.size w (w.alloc (.cells #[.int .i32 z,.string d,.string g,.string mi,.string pl,.string pc,.string pm,.string cu,.string e] 23))):=hid ((Below.refl _ _).alloc (Nat.le_refl _) _)
 go_enter Try.func4,Try.ntmps4
 go_upto_region 1 with fail
 generalize w.alloc (.cells #[.int .i32 z,.string d,.string g,.string mi,.string pl,.string pc,.string pm,.string cu,.string e] 23)=W0 at *
 generalize hgb:w.heap.size=b at *
 have HGB:=hid hgb
 have HB0:Hid (Below w.heap.size w W0):=hid (by rw [hgb]; exact HB.out)
 clear hgb HB
 go_cut [5,6] (M1 w b #[.int .i32 z,.string d,.string g,.string mi,.string pl,.string pc,.string pm,.string cu,.string e] p ef qf)
 case first=>
  go_wp2_with (first
   | go_skip
   | (go_at_call 6; refine (HR.out _).mono ?_; rintro e1 w1 ⟨PV1,rfl,hpt1,hb1⟩; obtain ⟨hsa,h20,hce⟩:=hpt1.out.sz)
   | (refine wpList_store_row rfl 26 _ _ rfl w1.heap.size PV1 rfl rfl 26 patZ ((BX.new w1 patZ 26).alloc _) hsa h20 hce ?_)
   | (refine wpList_store_row rfl 29 _ _ rfl (w1.heap.size+1) #[.int .i64 _,.int .i64 _] rfl rfl 29 _ (pb_f PV1) (qA6 _ _) rfl (qA9 _ _) ?_)
   | fail)
  go_meet
  exact m1_of (qHS hpt1.out hb1) HS.out HB0.out
 case rest=>
 obtain ⟨a,PVa,rfl,rfl,HM⟩:=hcut
 clear HS HB0 HR
 go_upto_region 2 with fail
 have y0:=HM.out.pb.bf.c 0
 have hsz:=HM.out.pb.pt.sz.1
 by_cases h0:ef=0
 case neg=>
  have g2:(ef != 0)=true:=by simpa using h0
  clear h0
  go_wp2_with (first | go_skip | (go_at_call 8; refine (HA.out _).mono ?_; rintro e9 w9 ⟨rfl,hb9⟩) | fail)
  go_ret
  exact ⟨rfl,HM.out.bl.trans (hb9.mono HM.out.bl.size)⟩
 subst h0
 obtain rfl:qf=0:=HF.out rfl
 have HGp:=hid (HGP.out p rfl)
 clear HGP HF
 by_cases h4:400 < s.size
 · have g4:decide ((400:Int) < (s.size:Int))=true:=decide_eq_true (by omega)
   clear h4
   go_wp2_with (first | go_skip | (go_at_call 8; refine (HA.out _).mono ?_; rintro e9 w9 ⟨rfl,hb9⟩) | fail)
   go_ret
   exact ⟨rfl,HM.out.bl.trans (hb9.mono HM.out.bl.size)⟩
 have g4:decide ((400:Int) < (s.size:Int))=false:=decide_eq_false (by omega)
 clear h4
 go_wp2_with (first | go_skip | (refine qA1 rfl 23 _ rfl b rfl 23 #[.int .i32 z,.string d,.string g,.string mi,.string pl,.string pc,.string pm,.string cu,.string e] (0,0) _ HM.out.bs Try.underlying23 rfl hss ?_) | fail)
 refine (CG.out _).mono ?_
 rintro e2 w2 ⟨rfl,hb2⟩
 have HM2:=hid (HM.out.below hb2.out)
 clear hb2 HM y0 CG g4
 rcases hg:qD1 z (tx8 d g mi pl pc pm cu e) with _ | _
 · clear hg
   go_wp2_with (first | go_skip | (go_at_call 8; refine (HA.out _).mono ?_; rintro e9 w9 ⟨rfl,hb9⟩) | fail)
   go_ret
   exact ⟨rfl,HM2.out.bl.trans (hb9.mono HM2.out.bl.size)⟩
 obtain ⟨Z,rfl⟩:∃ Z:Nat,z=(Z:Int):=⟨z.toNat,by have:=qBP.1 (qAA.1 hg).2; omega⟩
 rcases hX:clr Z p.at_ p.pad (txtI (tx5 mi pl pc pm cu) p.pre) (txtI (tx5 mi pl pc pm cu) p.suf) (txtI (tx5 mi pl pc pm cu) p.npre) (txtI (tx5 mi pl pc pm cu) p.nsuf) d g mi pl e with _ | _
 · have KA:=hid (fun W (h:Ptv W PVa p)=>qEF PVa p Z d g mi pl pc pm cu e W h HGp.out hg)
   rw [hX] at KA;clear hg hX hz ht HGp
   go_wp2_with (first | go_skip | (refine qA1 rfl 23 _ rfl b rfl 23 #[.int .i32 (Z:Int),.string d,.string g,.string mi,.string pl,.string pc,.string pm,.string cu,.string e] (0,0) _ HM2.out.bs Try.underlying23 rfl hss ?_) | (refine qA1 rfl 26 _ rfl a rfl 26 PVa (0,0) _ HM2.out.pb.bp Try.underlying26 rfl hsz ?_) | fail)
   refine (KA.out _ HM2.out.pb.pt).mono ?_;rintro e3 w3 ⟨rfl,hb3⟩;have HM3:=hid (HM2.out.below hb3);clear KA HM2 hb3
   go_wp2_with (first | go_skip | (go_at_call 8; refine (HA.out _).mono ?_; rintro e9 w9 ⟨rfl,hb9⟩) | fail)
   go_ret
   exact ⟨rfl,HM3.out.bl.trans (hb9.mono HM3.out.bl.size)⟩
 have KA:=hid (fun W (h:Ptv W PVa p)=>qEF PVa p Z d g mi pl pc pm cu e W h HGp.out hg)
 rw [hX] at KA
 obtain ⟨hn9,hpd,hpr⟩:=clr_two hX
 clear hX
 have C1:Hid (∀ W,Ptv W PVa p→Calls Try.prog 9 #[.agg PVa,.agg #[.int .i32 (Z:Int),.string d,.string g,.string mi,.string pl,.string pc,.string pm,.string cu,.string e],.bool false] W fun e' w'=>e'=.returned (.tuple #[.string (txtI (tx5 mi pl pc pm cu) p.pre),.string (txtI (tx5 mi pl pc pm cu) p.suf)])∧Hid (Below W.heap.size W w')):=hid fun W h=>qF9 PVa p Z d g mi pl pc pm cu e false W h HGp.out.afx (qBI hg)
 have C2:Hid (∀ W,Ptv W PVa p→Calls Try.prog 9 #[.agg PVa,.agg #[.int .i32 (Z:Int),.string d,.string g,.string mi,.string pl,.string pc,.string pm,.string cu,.string e],.bool true] W fun e' w'=>e'=.returned (.tuple #[.string (txtI (tx5 mi pl pc pm cu) p.npre),.string (txtI (tx5 mi pl pc pm cu) p.nsuf)])∧Hid (Below W.heap.size W w')):=hid fun W h=>qF9 PVa p Z d g mi pl pc pm cu e true W h HGp.out.afx (qBI hg)
 have hs5:=qBI hg
 obtain ⟨v5,vd,vg,vm,vp,ve⟩:=good_vt hg
 obtain ⟨va,na⟩:=qBL v5 hs5 HGp.out.afx.a.1
 obtain ⟨vb,nb⟩:=qBL v5 hs5 HGp.out.afx.b.1
 obtain ⟨vc,nc⟩:=qBL v5 hs5 HGp.out.afx.c.1
 obtain ⟨vf,nf⟩:=qBL v5 hs5 HGp.out.afx.d.1
 have hta:(txtI (tx5 mi pl pc pm cu) p.pre).size≤41000:=by have:=HGp.out.afx.a.2; omega
 have htb:(txtI (tx5 mi pl pc pm cu) p.suf).size≤41000:=by have:=HGp.out.afx.b.2; omega
 have htc:(txtI (tx5 mi pl pc pm cu) p.npre).size≤41000:=by have:=HGp.out.afx.c.2; omega
 have hte:(txtI (tx5 mi pl pc pm cu) p.nsuf).size≤41000:=by have:=HGp.out.afx.d.2; omega
 have hd16:d.size≤16:=(qAG.1 ((qAA.1 hg).1 0 (by omega))).2.1
 have hg16:g.size≤16:=(qAG.1 ((qAA.1 hg).1 1 (by omega))).2.1
 have he16:e.size≤16:=(qAG.1 ((qAA.1 hg).1 7 (by omega))).2.1
 have hzb:=qBP.1 (qAA.1 hg).2
 have hpn:=HGp.out.nat
 have hat:=HGp.out.at0
 have hpl:=qD3 hpn.2
 have f17:PVa[17]? = some (.int .i64 p.at_)∧PVa[18]? = some (.int .i32 p.pad):=by obtain ⟨A0,n0,c0,A1,n1,c1,A3,n3,c3,A4,n4,c4,hpv,-⟩:=HM2.out.pb.pt; rw [hpv]; exact ⟨rfl,rfl⟩
 clear na nb nc nf hg hz ht hs5 v5 HGp
 generalize txtI (tx5 mi pl pc pm cu) p.pre=ta at *
 generalize txtI (tx5 mi pl pc pm cu) p.suf=tb at *
 generalize txtI (tx5 mi pl pc pm cu) p.npre=tc at *
 generalize txtI (tx5 mi pl pc pm cu) p.nsuf=te at *
 obtain ⟨hpe,hpc⟩:=hpn
 rw [hpe,Int.toNat_natCast] at hpd
 rw [hpe] at f17 hn9
 generalize p.pad.toNat=pad at *
 generalize hat_:p.at_=at_ at *
 have HN9:=hid hn9
 have w1:=qF8 va vb
 have w2':=qF8 w1.1 vc
 have w3':=qF8 w2'.1 vf
 have w4':=qF8 w3'.1 vd
 have w5':=qF8 w4'.1 vg
 have w6':=qF8 w5'.1 ve
 have HXD:Hid (∀ k:Nat,k < 10→hasZ (((((((ta++tb)++tc)++te)++d)++g)++e)) [(Z:Int)+(k:Int)]=false):=hid fun k hk=>by
  have H:∀ x ∈ [ta,tb,tc,te,d,g,mi,pl,e],hasZ x [(Z:Int)+(k:Int)]=false:=fun x hx=>(nfr_no (hn9 x hx)).1 k hk
  exact qBO w5'.1 ve (qBO w4'.1 vg (qBO w3'.1 vd (qBO w2'.1 vf (qBO w1.1 vc (qBO va vb (H _ (by simp)) (H _ (by simp))) (H _ (by simp))) (H _ (by simp))) (H _ (by simp))) (H _ (by simp))) (H _ (by simp))
 have HXP:Hid (at_≠0→hasZ (((ta++tb)++tc)++te) [(pad:Int)]=false):=hid fun h0=>by
  have H:∀ x ∈ [ta,tb,tc,te,d,g,mi,pl,e],hasZ x [(pad:Int)]=false:=fun x hx=>(nfr_no (hn9 x hx)).2 h0
  exact qBO w2'.1 vf (qBO w1.1 vc (qBO va vb (H _ (by simp)) (H _ (by simp))) (H _ (by simp))) (H _ (by simp))
 have HV6:=hid w6'.1
 have HV3:=hid w3'.1
 have HZ6:Hid ((((((((ta++tb)++tc)++te)++d)++g)++e)).size≤1000000):=hid (by simp only [ByteArray.size_append]; omega)
 have HZ3:Hid ((((ta++tb)++tc)++te).size≤1000000):=hid (by simp only [ByteArray.size_append]; omega)
 have HPD:Hid (at_≠0→inS Z pad=false):=hid fun h0=>by rw [decide_eq_true h0] at hpd; exact hpd
 have gq:decide (0 < at_)=decide (at_≠0):=by by_cases h:at_=0 <;> simp [h] ; omega
 have exac:(ta.toList == tc.toList)=decide (bts ta=bts tc):=qAD ta tc
 have exbe:(tb.toList == te.toList)=decide (bts tb=bts te):=qAD tb te
 have gz:(at_ == 0) = !decide (at_≠0):=by by_cases h:at_=0 <;> simp [h]
 have hQ:at_≠0↔decide (at_≠0)=true:=by simp
 have HQ:=hid hQ
 clear hQ
 generalize decide (bts ta=bts tc)=xac at *
 generalize decide (bts tb=bts te)=xbe at *
 generalize decide (at_≠0)=xQ at *
 have nxac:(ta.toList != tc.toList) = !xac:=by rw [bne,exac]
 have nxbe:(tb.toList != te.toList) = !xbe:=by rw [bne,exbe]
 have HEQ:=hid (And.intro gq (And.intro gz (And.intro exac (And.intro exbe (And.intro nxac nxbe)))))
 have HPR:=hid hpr
 clear gq gz exac exbe nxac nxbe hpr hpd hn9 HN9 w1 w2' w3' w4' w5' w6' va vb vc vf vd vg vm vp ve hat_ hat hpc hpe
 go_wp2_with (first | go_skip | (refine qA1 rfl 23 _ rfl b rfl 23 #[.int .i32 (Z:Int),.string d,.string g,.string mi,.string pl,.string pc,.string pm,.string cu,.string e] (0,0) _ HM2.out.bs Try.underlying23 rfl hss ?_) | (refine qA1 rfl 26 _ rfl a rfl 26 PVa (0,0) _ HM2.out.pb.bp Try.underlying26 rfl hsz ?_) | fail)
 refine (KA.out _ HM2.out.pb.pt).mono ?_
 rintro e3 w3 ⟨rfl,hb3⟩
 have HM3:=hid (HM2.out.below hb3)
 clear KA HM2 hb3
 go_wp2_with (first | go_skip | (refine qA1 rfl 23 _ rfl b rfl 23 #[.int .i32 (Z:Int),.string d,.string g,.string mi,.string pl,.string pc,.string pm,.string cu,.string e] (0,0) _ HM3.out.bs Try.underlying23 rfl hss ?_) | (refine qA1 rfl 26 _ rfl a rfl 26 PVa (0,0) _ HM3.out.pb.bp Try.underlying26 rfl hsz ?_) | fail)
 refine (C1.out _ HM3.out.pb.pt).mono ?_
 rintro e4 w4 ⟨rfl,hb4⟩
 have HM4:=hid (HM3.out.below hb4.out)
 clear C1 HM3 hb4
 go_wp2_with (first | go_skip | (refine qA1 rfl 23 _ rfl b rfl 23 #[.int .i32 (Z:Int),.string d,.string g,.string mi,.string pl,.string pc,.string pm,.string cu,.string e] (0,0) _ HM4.out.bs Try.underlying23 rfl hss ?_) | (refine qA1 rfl 26 _ rfl a rfl 26 PVa (0,0) _ HM4.out.pb.bp Try.underlying26 rfl hsz ?_) | fail)
 refine (C2.out _ HM4.out.pb.pt).mono ?_
 rintro e5 w5 ⟨rfl,hb5⟩
 have HM5:=hid (HM4.out.below hb5.out)
 clear C2 HM4 hb5
 go_wp2_with fail
 go_loopw [11] (fun iv wr=>∃ k:Nat,k≤10∧iv=.int .i32 (k:Int)∧Hid (MB w b #[.int .i32 (Z:Int),.string d,.string g,.string mi,.string pl,.string pc,.string pm,.string cu,.string e] a PVa 0 0 p wr)) (fun iv _=>10 - (intOf iv).toNat)
 case atStart=>exact ⟨0,by omega,rfl,HM5⟩
 case round=>
  obtain ⟨k,hk,rfl,HMr⟩:=hrel
  by_cases hlt:k < 10
  · have gi:decide ((k:Int) < 10)=true:=decide_eq_true (by omega)
    have gw:IntKind.i32.wrap ((Z:Int)+(k:Int))=(Z:Int)+(k:Int):=IntWalk.i32_in _ (by omega);have gs:IntKind.i32.wrap ((k:Int)+1)=(k:Int)+1:=IntWalk.i32_in _ (by omega);have gp:Hid (xQ=true→((pad:Int) == (Z:Int)+(k:Int))=false):=hid fun h=>by
     have h1:=HPD.out (HQ.out.2 h)
     rcases inS_no h1 with h2 | h2 <;> exact beq_eq_false_iff_ne.2 (by omega)
    have CH:Hid (∀ W:World,Calls Try.prog 13 #[.string (((((((ta++tb)++tc)++te)++d)++g)++e)),.slice (some ⟨W.heap.size,0,none⟩) 1 1] (W.alloc (.cells #[.int .i32 ((Z:Int)+(k:Int))] 21)) fun e w'=>e=.returned (.bool false)∧Below (W.alloc (.cells #[.int .i32 ((Z:Int)+(k:Int))] 21)).heap.size (W.alloc (.cells #[.int .i32 ((Z:Int)+(k:Int))] 21)) w'):=hid fun W=>by
     have:=qDJ (((((((ta++tb)++tc)++te)++d)++g)++e)) (some ⟨W.heap.size,0,none⟩) 1 1 [(Z:Int)+(k:Int)] (W.alloc (.cells #[.int .i32 ((Z:Int)+(k:Int))] 21)) HZ6.out HV6.out (qEX W _ (by omega)) (by omega)
     rwa [HXD.out k hlt] at this
    have c0:=HMr.out.bs.v 0 rfl;have c1:=HMr.out.bs.v 1 rfl;have c2:=HMr.out.bs.v 2 rfl;have c8:=HMr.out.bs.v 8 rfl
    go_wp2_with fail
    refine (CH.out _).mono ?_;rintro e6 w6 ⟨rfl,hb6⟩;have HM6:=hid ((HMr.out.below ((Below.refl _ _).alloc (Nat.le_refl _) _)).below hb6);clear c0 c1 c2 c8 hb6 CH;have c0:=HM6.out.bs.v 0 rfl;have c17:=HM6.out.pb.bp.v 17 f17.1;have c18:=HM6.out.pb.bp.v 18 f17.2;have gq:=HEQ.out.1
    cases xQ
    case false=>
     go_wp2_with (first | go_skip | fail)
     go_roundw
     case rel=>exact ⟨k+1,by omega,by go_num,HM6⟩
     case measure=>simp [intOf]; omega
    case true=>
     have gp2:=gp.out rfl
     go_wp2_with (first | go_skip | fail)
     go_roundw
     case rel=>exact ⟨k+1,by omega,by go_num,HM6⟩
     case measure=>simp [intOf]; omega
  · obtain rfl:k=10:=by omega
    go_wp2_with fail
    refine (HA.out _).mono ?_;rintro e7 w7 ⟨rfl,hb7⟩;have HM7:=hid (HMr.out.below hb7);have c17:=HM7.out.pb.bp.v 17 f17.1;have c18:=HM7.out.pb.bp.v 18 f17.2;obtain ⟨gq,gz,exac,exbe,nxac,nxbe⟩:=HEQ.out;clear HEQ gq hb7
    cases xac
    case false=>
     cases xQ
     case false=>
      go_wp2_with (first | go_skip | fail)
      go_ret
      exact ⟨rfl,HM7.out.bl⟩
     case true=>
      have CH2:=hid (fun W=>qDJ (((ta++tb)++tc)++te) (some ⟨W.heap.size,0,none⟩) 1 1 [(pad:Int)] (W.alloc (.cells #[.int .i32 (pad:Int)] 21)) HZ3.out HV3.out (qEX W pad (by omega)) (by omega));rw [HXP.out (HQ.out.2 rfl)] at CH2
      go_wp2_with (first | go_skip | fail)
      refine (CH2.out _).mono ?_;rintro e8 w8 ⟨rfl,hb8⟩;have HM8:=hid ((HM7.out.below ((Below.refl _ _).alloc (Nat.le_refl _) _)).below hb8)
      go_wp2
      go_ret
      exact ⟨rfl,HM8.out.bl⟩
    case true=>
     cases xbe
     case false=>
      cases xQ
      case false=>
       go_wp2_with (first | go_skip | fail)
       go_ret
       exact ⟨rfl,HM7.out.bl⟩
      case true=>
       have CH2:=hid (fun W=>qDJ (((ta++tb)++tc)++te) (some ⟨W.heap.size,0,none⟩) 1 1 [(pad:Int)] (W.alloc (.cells #[.int .i32 (pad:Int)] 21)) HZ3.out HV3.out (qEX W pad (by omega)) (by omega));rw [HXP.out (HQ.out.2 rfl)] at CH2
       go_wp2_with (first | go_skip | fail)
       refine (CH2.out _).mono ?_;rintro e8 w8 ⟨rfl,hb8⟩;have HM8:=hid ((HM7.out.below ((Below.refl _ _).alloc (Nat.le_refl _) _)).below hb8)
       go_wp2
       go_ret
       exact ⟨rfl,HM8.out.bl⟩
     case true=>exact absurd HPR.out (by decide)
end Go.Proofs.Ytohfadegildnaaa
