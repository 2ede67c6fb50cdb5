import Derived.Test.YtohfadegildnaaaQUI
import Derived.Test.YtohfadegildnaaaQYD
set_option linter.all false
set_option maxRecDepth 100000
namespace Go.Proofs.Ytohfadegildnaaa
open Go.RowKit
open Lib (hid)
def qEE (t:ByteArray):Bool:=decide (t.size≠0) && decide (t.size≤16) && decide (rst (bts t)=[])
theorem qAG {t:ByteArray}:qEE t=true↔t.size≠0∧t.size≤16∧rst (bts t)=[]:=by simp [qEE,and_assoc]
def tx8 (d g mi pl pc pm cu e:ByteArray) (k:Nat):ByteArray:=[d,g,mi,pl,pc,pm,cu,e].getD k ⟨#[]⟩
def gd8 (tx:Nat→ByteArray) (k:Nat):Prop:=∀ j,j < k→qEE (tx j)=true
theorem gd8_succ {tx:Nat→ByteArray} {k:Nat} (h:gd8 tx k) (hk:qEE (tx k)=true):gd8 tx (k+1):=fun j hj=>by
 rcases Nat.lt_or_ge j k with h' | h'
 · exact h j h'
 · obtain rfl:j=k:=by omega
   exact hk
def qD1 (z:Int) (tx:Nat→ByteArray):Bool:=(List.range 8).all (fun k=>qEE (tx k)) && sysZ z
theorem goodS_no {z:Int} {tx:Nat→ByteArray} {k:Nat} (hk:k < 8) (h:qEE (tx k)=false):qD1 z tx=false:=by
 rw [qD1,Bool.and_eq_false_iff]
 left
 rw [List.all_eq_false]
 exact ⟨k,List.mem_range.2 hk,by rw [h]; decide⟩
theorem goodS_yes {z:Int} {tx:Nat→ByteArray} (h:gd8 tx 8):qD1 z tx=sysZ z:=by
 rw [qD1,show (List.range 8).all (fun k=>qEE (tx k))=true from List.all_eq_true.2 fun k hk=>h k (List.mem_range.1 hk),Bool.true_and]
theorem qAA {z:Int} {tx:Nat→ByteArray}:qD1 z tx=true↔gd8 tx 8∧sysZ z=true:=by
 rw [qD1,Bool.and_eq_true,List.all_eq_true]
 exact ⟨fun h=>⟨fun k hk=>h.1 k (List.mem_range.2 hk),h.2⟩,fun h=>⟨fun k hk=>h.1 k (List.mem_range.1 hk),h.2⟩⟩
theorem row_at (d g mi pl pc pm cu e:ByteArray) {k:Nat} (hk:k < 8):(#[.string d,.string g,.string mi,.string pl,.string pc,.string pm,.string cu,.string e]:Array Value)[k]? = some (.string (tx8 d g mi pl pc pm cu e k)):=by
 obtain rfl | rfl | rfl | rfl | rfl | rfl | rfl | rfl:k=0∨k=1∨k=2∨k=3∨k=4∨k=5∨k=6∨k=7:=by omega
 all_goals rfl
theorem goodT_no0 {t:ByteArray} (h:t.size=0):qEE t=false:=by rw [qEE,show decide (t.size≠0)=false from decide_eq_false (by omega)]; rfl
theorem goodT_no1 {t:ByteArray} (h:16 < t.size):qEE t=false:=by rw [qEE,show decide (t.size≤16)=false from decide_eq_false (by omega)]; simp
theorem goodT_no2 {t:ByteArray} (h:0≤badZ (bts t)):qEE t=false:=by
 rw [qEE,show decide (rst (bts t)=[])=false from decide_eq_false fun e=>by have:=qF0.2 e; omega]; simp
theorem goodT_yes {t:ByteArray} (h0:t.size≠0) (h1:t.size≤16) (h2:badZ (bts t) < 0):qEE t=true:=qAG.2 ⟨h0,h1,qF0.1 h2⟩
theorem sysZ_neg {z:Int} (h:z < 0):sysZ z=false:=by rw [sysZ]; exact decide_eq_false (by omega)
set_option maxHeartbeats 4000000 in
theorem qE3 (z:Int) (d g mi pl pc pm cu e:ByteArray) (w:World) (hz : -2147483648≤z∧z≤2147483647) (hs:∀ k,k < 8→(tx8 d g mi pl pc pm cu e k).size≤10000000000) :
 Calls Try.prog 7 #[.agg #[.int .i32 z,.string d,.string g,.string mi,.string pl,.string pc,.string pm,.string cu,.string e]] w fun e' w'=>
 e'=.returned (.bool (qD1 z (tx8 d g mi pl pc pm cu e)))∧Hid (Below w.heap.size w w'):=by
 generalize hb:qD1 z (tx8 d g mi pl pc pm cu e)=B
 have HBd:=hid hb
 clear hb
 have HX:=hid (BX.alloc (BX.new w #[.int .i32 z,.string d,.string g,.string mi,.string pl,.string pc,.string pm,.string cu,.string e] 23) (.cells #[.string d,.string g,.string mi,.string pl,.string pc,.string pm,.string cu,.string e] 9))
 have HN:=hid (BX.new (w.alloc (.cells #[.int .i32 z,.string d,.string g,.string mi,.string pl,.string pc,.string pm,.string cu,.string e] 23)) #[.string d,.string g,.string mi,.string pl,.string pc,.string pm,.string cu,.string e] 9)
 have HB0:=hid (((Below.refl w.heap.size w).alloc (Nat.le_refl _) (.cells #[.int .i32 z,.string d,.string g,.string mi,.string pl,.string pc,.string pm,.string cu,.string e] 23)).alloc (by rw [World.size_alloc]; exact Nat.le_succ _) (.cells #[.string d,.string g,.string mi,.string pl,.string pc,.string pm,.string cu,.string e] 9))
 rw [World.size_alloc] at HN
 have CD:=hid (fun W=>refZero_c z W hz)
 go_enter Try.func7,Try.ntmps7
 go_wp2
 generalize (w.alloc (.cells #[.int .i32 z,.string d,.string g,.string mi,.string pl,.string pc,.string pm,.string cu,.string e] 23)).alloc (.cells #[.string d,.string g,.string mi,.string pl,.string pc,.string pm,.string cu,.string e] 9)=W0 at *
 have HGW:=hid (Nat.le_of_lt HX.out.lt)
 generalize hG:w.heap.size=G at *
 have HG:=hid hG
 clear hG
 go_loopw [25] (fun iv wr=>∃ k:Nat,k≤8∧iv=.int .i64 (k:Int)∧gd8 (tx8 d g mi pl pc pm cu e) k∧Below W0.heap.size W0 wr) (fun iv _=>8 - (intOf iv).toNat)
 case atStart=>exact ⟨0,by omega,rfl,fun j hj=>absurd hj (by omega),Below.refl _ _⟩
 case round=>
  obtain ⟨k,hk,rfl,hgd,hb0⟩:=hrel;have HGd:=hid hgd;have HB:=hid hb0;clear hgd hb0
  by_cases hlt:k < 8
  · have gi:decide ((k:Int) < 8)=true:=decide_eq_true (by omega)
    have ha:=((HN.out.below HB.out HN.out.lt).c k).trans (row_at d g mi pl pc pm cu e hlt);have CF:=hid (qEO (tx8 d g mi pl pc pm cu e k) wr (hs k hlt));have HE:=hid (qAO (tx8 d g mi pl pc pm cu e k));have HNo:=hid (goodS_no (z:=z) (tx:=tx8 d g mi pl pc pm cu e) hlt);have HSc:=hid (gd8_succ (tx:=tx8 d g mi pl pc pm cu e) (k:=k) HGd.out);generalize tx8 d g mi pl pc pm cu e k=t at *;have H0:=hid (goodT_no0 (t:=t));have H1:=hid (goodT_no1 (t:=t));have H2:=hid (goodT_no2 (t:=t));have HY:=hid (goodT_yes (t:=t));generalize badZ (bts t)=bz at *
    rcases Nat.eq_zero_or_pos t.size with h0 | h0
    · have e1:t.toList.isEmpty=true:=by rw [HE.out]; exact decide_eq_true h0
      obtain rfl:false=B:=(HNo.out (H0.out h0)).symm.trans HBd.out;clear HE h0 H0 H1 H2 HY HNo HSc
      go_wp2_with (first
       | (go_at_call 19; refine CF.out.mono ?_; rintro e2 w2 ⟨A2,m2,c2,rfl,ho2,hb2⟩)
       | (with_reducible go_skip)
       | fail)
      go_ret
      exact ⟨rfl,hid (by rw [HG.out]; exact HB0.out.trans ((HB.out.trans (hb2.mono HB.out.size)).mono HGW.out))⟩
    · have e1:t.toList.isEmpty=false:=by rw [HE.out]; exact decide_eq_false (by omega)
      by_cases h16:16 < t.size
      · have g1:decide ((16:Int) < (t.size:Int))=true:=decide_eq_true (by omega)
        obtain rfl:false=B:=(HNo.out (H1.out h16)).symm.trans HBd.out;clear HE h0 H0 H1 H2 HY HNo HSc h16
        go_wp2_with (first
         | (go_at_call 19; refine CF.out.mono ?_; rintro e2 w2 ⟨A2,m2,c2,rfl,ho2,hb2⟩)
         | (with_reducible go_skip)
         | fail)
        go_ret
        exact ⟨rfl,hid (by rw [HG.out]; exact HB0.out.trans ((HB.out.trans (hb2.mono HB.out.size)).mono HGW.out))⟩
      · have g1:decide ((16:Int) < (t.size:Int))=false:=decide_eq_false (by omega)
        by_cases hbz:0≤bz
        · have g2:decide (0≤bz)=true:=decide_eq_true hbz
          obtain rfl:false=B:=(HNo.out (H2.out hbz)).symm.trans HBd.out;clear HE h0 H0 H1 H2 HY HNo HSc h16 hbz
          go_wp2_with (first
           | (go_at_call 19; refine CF.out.mono ?_; rintro e2 w2 ⟨A2,m2,c2,rfl,ho2,hb2⟩)
           | (with_reducible go_skip)
           | fail)
          go_ret
          exact ⟨rfl,hid (by rw [HG.out]; exact HB0.out.trans ((HB.out.trans (hb2.mono HB.out.size)).mono HGW.out))⟩
        · have g2:decide (0≤bz)=false:=decide_eq_false hbz
          have HSd:=hid (HSc.out (HY.out (by omega) (by omega) (by omega)));clear HE h0 H0 H1 H2 HY HNo HSc h16 hbz
          go_wp2_with (first
           | (go_at_call 19; refine CF.out.mono ?_; rintro e2 w2 ⟨A2,m2,c2,rfl,ho2,hb2⟩)
           | (with_reducible go_skip)
           | fail)
          go_roundw
          case rel=>exact ⟨k+1,by omega,by go_num,HSd.out,HB.out.trans (hb2.mono HB.out.size)⟩
          case measure=>simp [intOf]; omega
  · obtain rfl:k=8:=by omega
    have gi:decide ((8:Int) < 8)=false:=rfl;have HS:=hid ((goodS_yes (z:=z) HGd.out).symm.trans HBd.out);have d0:=(HX.out.below HB.out HX.out.lt).c 0;clear hlt
    by_cases hz0:0≤z
    · have g3:decide (0≤z)=true:=decide_eq_true hz0
      clear hz0
      go_wp2_with (first
       | (go_at_call 20; refine (CD.out _).mono ?_; rintro e2 w2 ⟨rfl,rfl⟩)
       | (with_reducible go_skip)
       | fail)
      go_ret
      exact ⟨by rw [HS.out]; rfl,hid (by rw [HG.out]; exact HB0.out.trans (HB.out.mono HGW.out))⟩
    · have g3:decide (0≤z)=false:=decide_eq_false hz0
      obtain rfl:false=B:=(sysZ_neg (by omega)).symm.trans HS.out;clear hz0
      go_wp2_with (first
       | (with_reducible go_skip)
       | fail)
      go_ret
      exact ⟨rfl,hid (by rw [HG.out]; exact HB0.out.trans (HB.out.mono HGW.out))⟩
end Go.Proofs.Ytohfadegildnaaa

set_option linter.all false
set_option maxRecDepth 100000
namespace Go.Proofs.Ytohfadegildnaaa
open Go.RowKit Go.ChangeMaps
open Lib (hid)
set_option maxHeartbeats 4000000 in
theorem refText18_c (z:Int) (d g mi pl pc pm cu e:ByteArray) (A:Option Addr) (n c:Nat) (is:List Itm) (w:World) (h:Its w A n is) (hn:n≤200) (hs:∀ j,j < 5→(tx5 mi pl pc pm cu j).size≤1000) (hm:is.all mayI=true) :
 Calls Try.prog 22 #[.agg #[.int .i32 z,.string d,.string g,.string mi,.string pl,.string pc,.string pm,.string cu,.string e],.slice A n c] w fun e' w'=>
 e'=.returned (.string (stz (txI (tx5 mi pl pc pm cu) is)))∧Hid (Below w.heap.size w w'):=by
 have HLn:=hid h.len
 have HM:=hid hm
 have HX:Hid (BXS (w.alloc (.cells #[.int .i32 z,.string d,.string g,.string mi,.string pl,.string pc,.string pm,.string cu,.string e] 23)) w.heap.size z d g mi pl pc pm cu e):=hid (BX.new _ _ _)
 have hB:Below w.heap.size w (w.alloc (.cells #[.int .i32 z,.string d,.string g,.string mi,.string pl,.string pc,.string pm,.string cu,.string e] 23)):=(Below.refl _ _).alloc (Nat.le_refl _) _
 have HGW:=hid hB.size
 have HI:=hid (h.below hB)
 have HB0:=hid hB
 clear h hB hm
 go_enter Try.func22,Try.ntmps22
 go_upto_region 1 with fail
 generalize w.alloc (.cells #[.int .i32 z,.string d,.string g,.string mi,.string pl,.string pc,.string pm,.string cu,.string e] 23)=W0 at *
 generalize hG:w.heap.size=G at *
 have HG:=hid hG
 clear hG
 go_wp2
 go_loopw [5,6] (fun sv iv wr=>∃ k:Nat,k≤n∧iv=.int .i64 (k:Int)∧sv=.string (stz (txI (tx5 mi pl pc pm cu) (is.take k)))∧Below W0.heap.size W0 wr) (fun _ iv _=>n - (intOf iv).toNat)
 case atStart=>exact ⟨0,Nat.zero_le _,rfl,rfl,Below.refl _ _⟩
 case round=>
  obtain ⟨k,hk,rfl,rfl,hb0⟩:=hrel;have HB:=hid hb0;have HT:=hid (HI.out.below hb0);have HXr:=hid (HX.out.below hb0 HX.out.lt);clear hb0
  by_cases hlt:k < n
  · have gi:decide ((k:Int) < (n:Int))=true:=decide_eq_true (by omega)
    have hks:k < is.length:=by rw [HLn.out]; exact hlt
    obtain ⟨ad,rfl,hab,x0,x1,_⟩:=HT.out.at_ hlt;have HTK:=hid (txI_take (tx:=tx5 mi pl pc pm cu) hks);have HTL:=hid (qFX (tx:=tx5 mi pl pc pm cu) hs (may_take HM.out k)).1;have hll:(stz (txI (tx5 mi pl pc pm cu) (is.take k))).size≤1000000:=by
     have:=HTL.out;rw [List.length_take] at this;rw [qAK];omega
    rcases qDM (may_im HM.out hks) with ⟨x,hx,he⟩ | ⟨j,hj,he⟩
    · rw [he] at x0 x1 HTK
      rw [qH3] at HTK;dsimp only at x0 x1;have HTS:Hid (stz (txI (tx5 mi pl pc pm cu) (is.take (k+1)))=stz (txI (tx5 mi pl pc pm cu) (is.take k))++stz (encN x)):=hid (by rw [HTK.out,qEI]);have HC:=hid (fun (W:World)=>qBB x W hx);have HLt:=hid (qBS hx);have hle:=qGD x;have hez:(stz (encN x)).size≤4:=by rw [qAK]; exact hle
      generalize stz (txI (tx5 mi pl pc pm cu) (is.take k))=T at *;clear he hx HTL HTK
      go_wp2_with (first
       | (go_at_call 27; refine (HC.out _).mono ?_; rintro e3 w3 ⟨A3,m3,c3,rfl,ho3,hm3,hb3⟩; have hcv:=qAT ho3 HLt.out; clear ho3 hm3)
       | fail)
      go_roundw
      case rel=>exact ⟨k+1,by omega,by go_num,by rw [HTS.out],HB.out.trans (hb3.mono HB.out.size)⟩
      case measure=>simp [intOf]; omega
    · rw [he] at x0 x1 HTK
      rw [qF6] at HTK;dsimp only at x0 x1;have HTS:Hid (stz (txI (tx5 mi pl pc pm cu) (is.take (k+1)))=stz (txI (tx5 mi pl pc pm cu) (is.take k))++tx5 mi pl pc pm cu j):=hid (by rw [HTK.out,qEI,stz_bts]);have hsj:=hs j hj;generalize stz (txI (tx5 mi pl pc pm cu) (is.take k))=T at *;clear he HTL HTK;obtain rfl | rfl | rfl | rfl | rfl:j=0∨j=1∨j=2∨j=3∨j=4:=by omega
      · have x0:wr.cell? (ad.add (k * 2))=some (.int .i64 2):=x0
        have d0:=HXr.out.c 3
        change (mi:ByteArray).size≤1000 at hsj
        go_wp2
        go_roundw
        case rel=>exact ⟨k+1,by omega,by go_num,by rw [HTS.out]; rfl,HB.out⟩
        case measure=>simp [intOf]; omega
      · have x0:wr.cell? (ad.add (k * 2))=some (.int .i64 3):=x0
        have d0:=HXr.out.c 4
        change (pl:ByteArray).size≤1000 at hsj
        go_wp2
        go_roundw
        case rel=>exact ⟨k+1,by omega,by go_num,by rw [HTS.out]; rfl,HB.out⟩
        case measure=>simp [intOf]; omega
      · have x0:wr.cell? (ad.add (k * 2))=some (.int .i64 4):=x0
        have d0:=HXr.out.c 5
        change (pc:ByteArray).size≤1000 at hsj
        go_wp2
        go_roundw
        case rel=>exact ⟨k+1,by omega,by go_num,by rw [HTS.out]; rfl,HB.out⟩
        case measure=>simp [intOf]; omega
      · have x0:wr.cell? (ad.add (k * 2))=some (.int .i64 5):=x0
        have d0:=HXr.out.c 6
        change (pm:ByteArray).size≤1000 at hsj
        go_wp2
        go_roundw
        case rel=>exact ⟨k+1,by omega,by go_num,by rw [HTS.out]; rfl,HB.out⟩
        case measure=>simp [intOf]; omega
      · have x0:wr.cell? (ad.add (k * 2))=some (.int .i64 6):=x0
        have d0:=HXr.out.c 7
        change (cu:ByteArray).size≤1000 at hsj
        go_wp2
        go_roundw
        case rel=>exact ⟨k+1,by omega,by go_num,by rw [HTS.out]; rfl,HB.out⟩
        case measure=>simp [intOf]; omega
  · obtain rfl:k=n:=by omega
    have gi:decide ((k:Int) < (k:Int))=false:=decide_eq_false (by omega);have hte:is.take k=is:=List.take_of_length_le (by rw [HLn.out]; exact Nat.le_refl _);rw [hte];clear hte hlt
    go_wp2
    go_ret
    exact ⟨rfl,hid (by rw [HG.out]; exact HB0.out.trans (HB.out.mono HGW.out))⟩
end Go.Proofs.Ytohfadegildnaaa
