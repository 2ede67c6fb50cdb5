import Derived.Test.YtohfadegildnaaaQMB
import Derived.Test.YtohfadegildnaaaQTG
set_option linter.all false
set_option maxRecDepth 100000
namespace Go.Proofs.Ytohfadegildnaaa
open Go.RowKit
open Lib (hid)
set_option maxHeartbeats 2000000 in
theorem affTokens_c (A:Option Addr) (n c:Nat) (is:List Itm) (w:World) (h:Its w A n is) (hn:n≤10000000000):Calls Try.prog 37 #[.slice A n c] w fun e w'=>
 ∃ A' m c',e=.returned (.slice A' m c')∧Hid (OwnT w' w.heap.size A' m c' (tksI is))∧Hid (Below w.heap.size w w'):=by
 have HL:=hid h.len
 have H:=hid h
 clear h
 generalize hg:w.heap.size=g at *
 have Hg:=hid hg
 clear hg
 have B0:=hid (show Below g w w by rw [← Hg.out]; exact Below.refl _ _)
 go_enter Try.func37,Try.ntmps37
 go_wp2
 go_loopw [3,10] (fun v iv wr=>∃ (k:Nat),k≤n∧iv=.int .i64 (k:Int)∧(is.take k).all mayI=true∧wr.ownsRow g 48 3 v k (qC7 ((is.take k).map tkI))∧Below g w wr) (fun _ iv _=>n - (intOf iv).toNat)
 case atStart=>exact ⟨0,Nat.zero_le _,rfl,rfl,World.ownsRow_nil _ _ _ _,B0.out⟩
 case round=>
  obtain ⟨k,hk,rfl,hall0,ho0,hb0⟩:=hrel;have HALL:=hid hall0;have HO:=hid ho0;have HB:=hid hb0;have hqs:g≤wr.heap.size:=by have:=hb0.size; have:=Hg.out; omega
  have HT:=hid (H.out.below (w':=wr) (by rw [Hg.out]; exact hb0));clear hall0 ho0 hb0
  by_cases hlt:k < n
  · obtain ⟨ad,rfl,hab,c0,c1,hri⟩:=HT.out.at_ hlt
    have HS:=hid (qHH is (k:=k) (by rw [HL.out]; exact hlt));have HMEM:=hid (im_mem (is:=is) (k:=k) (by rw [HL.out]; exact hlt));clear hri;generalize im is k=i at *;obtain ⟨a,r⟩:=i;dsimp only at c0 c1;have BA:=hid (HB.out.alloc hqs (.cells #[.int .i64 a,.int .i32 r] 57));have OA:=hid (HO.out.alloc (.cells #[.int .i64 a,.int .i32 r] 57));have HC:=hid (affTell_c a r)
    rcases hm:mayI (a,r) with _ | _
    · rw [tlI_no hm,hm] at HC
      have HV:=hid (tksI_no (is:=is) (by
       rw [Bool.eq_false_iff];intro ha;rw [List.all_eq_true.1 ha _ HMEM.out] at hm; cases hm))
      clear hm
      go_wp2_with fail
      refine (HC.out _).mono ?_;rintro e w1 ⟨rfl,hb1⟩;have HB1:=hid (BA.out.trans (hb1.mono (by simp; omega)));have hqs1:g≤w1.heap.size:=by have:=hb1.size; simp at this; omega
      clear hb1
      go_wp2
      go_ret
      rw [HV.out];exact ⟨_,_,_,rfl,hid (qF2 _ _),hid (HB1.out.alloc hqs1 _)⟩
    · rw [qGN hm,hm] at HC
      have HM:=hid hm;have HTE:=hid (show tkI (a,r)=tkI (a,r) from rfl);generalize hti:tkI (a,r)=T at HC HTE;have HTI:=hid hti;obtain ⟨x,y,z⟩:=T;dsimp only at HC;clear hm hti HTE
      go_wp2_with fail
      refine (HC.out _).mono ?_;rintro e w1 ⟨rfl,hb1⟩;have HO1:=hid (qD6 OA.out hb1 rfl);have HB1:=hid (BA.out.trans (hb1.mono (by simp; omega)));have hqs1:g≤w1.heap.size:=by have:=hb1.size; simp at this; omega
      have HO2:=hid (HO1.out.alloc (.cells #[.int .i32 x,.bool y,.int .i64 z] 48));have HB2:=hid (HB1.out.alloc hqs1 (.cells #[.int .i32 x,.bool y,.int .i64 z] 48));have hqs2:g≤(w1.alloc (.cells #[.int .i32 x,.bool y,.int .i64 z] 48)).heap.size:=by simp; omega
      clear hb1
      go_wp2_with (at_builtin; go_must (refine qAY rfl (.tmp 21) (.tmp 23) _ rfl Try.underlying43 g u3 k ((is.take k).map tkI) rfl HO2.out (x,y,z) (by rw [World.size_alloc]; rfl) x y z rfl (by omega) HB2.out hqs2 ?_))
      intro v' w' ho4 hb4 _
      go_wp2
      go_roundw
      case rel=>
       refine ⟨k+1,by omega,by go_num,?_,?_,hb4.out⟩
       · rw [HS.out,List.all_append,HALL.out]; simp [HM.out]
       · have e:(is.take (k+1)).map tkI=(is.map tkI).take k++[(x,y,z)]:=by rw [HS.out,List.map_append,List.map_take,List.map_cons,List.map_nil,HTI.out]
         rw [e]; exact ho4.out
      case measure=>simp [intOf]; omega
  · have hkm:k=n:=by omega
    subst hkm;rw [List.take_of_length_le (by rw [HL.out]; exact Nat.le_refl _)] at HO HALL;obtain ⟨A7,c7,hA⟩:=qAN HO.out;subst hA
    go_wp2
    go_ret
    rw [tksI_may HALL.out];refine ⟨_,_,_,rfl,hid ⟨HO.out,hn,fun t ht=>?_⟩,HB⟩;obtain ⟨i,hi,rfl⟩:=List.mem_map.1 ht;exact r32_tkI (H.out.2.2 i hi)
end Go.Proofs.Ytohfadegildnaaa

set_option linter.all false
set_option maxRecDepth 100000
namespace Go.Proofs.Ytohfadegildnaaa
open Go.RowKit
theorem sgK_at (r:Int):(r=45∧sgK r=2)∨(r=43∧sgK r=3)∨(r=37∧sgK r=4)∨(r=8240∧sgK r=5)∨(r=164∧sgK r=6)∨((r≠45∧r≠43∧r≠37∧r≠8240∧r≠164)∧sgK r=0):=by
 unfold sgK; repeat' split
 all_goals omega
set_option maxHeartbeats 1000000 in
theorem refSign_c (r:Int) (w:World):Calls Try.prog 49 #[.int .i32 r] w fun e w'=>e=.returned (.int .i64 (sgK r))∧w=w':=by
 rcases sgK_at r with ⟨rfl,h⟩ | ⟨rfl,h⟩ | ⟨rfl,h⟩ | ⟨rfl,h⟩ | ⟨rfl,h⟩ | ⟨⟨h1,h2,h3,h4,h5⟩,h⟩
 · rw [h]
   go_enter Try.func49,Try.ntmps49
   go_wp2
   go_ret
   exact ⟨rfl,rfl⟩
 · rw [h]
   go_enter Try.func49,Try.ntmps49
   go_wp2
   go_ret
   exact ⟨rfl,rfl⟩
 · rw [h]
   go_enter Try.func49,Try.ntmps49
   go_wp2
   go_ret
   exact ⟨rfl,rfl⟩
 · rw [h]
   go_enter Try.func49,Try.ntmps49
   go_wp2
   go_ret
   exact ⟨rfl,rfl⟩
 · rw [h]
   go_enter Try.func49,Try.ntmps49
   go_wp2
   go_ret
   exact ⟨rfl,rfl⟩
 · rw [h]
   have g1:(r == 45)=false:=by simpa using h1
   have g2:(r == 43)=false:=by simpa using h2
   have g3:(r == 37)=false:=by simpa using h3
   have g4:(r == 8240)=false:=by simpa using h4
   have g5:(r == 164)=false:=by simpa using h5
   clear h1 h2 h3 h4 h5 h
   go_enter Try.func49,Try.ntmps49
   go_wp2
   go_ret
   exact ⟨rfl,rfl⟩
set_option maxHeartbeats 1000000 in
theorem qHU (r:Int) (w:World):Calls Try.prog 48 #[.int .i32 r] w fun e w'=>e=.returned (.bool (mrk r))∧w=w':=by
 rcases hm:mrk r with _ | _
 · have hn:¬ mrk r=true:=by rw [hm]; decide
   rw [mrk_iff] at hn;have h1:(r == 35)=false:=by simp only [beq_eq_false_iff_ne,ne_eq]; omega
   have h2:(r == 64)=false:=by simp only [beq_eq_false_iff_ne,ne_eq]; omega
   have h3:(r == 44)=false:=by simp only [beq_eq_false_iff_ne,ne_eq]; omega
   have h4:(r == 46)=false:=by simp only [beq_eq_false_iff_ne,ne_eq]; omega
   have h5:(r == 59)=false:=by simp only [beq_eq_false_iff_ne,ne_eq]; omega
   have h6:(r == 42)=false:=by simp only [beq_eq_false_iff_ne,ne_eq]; omega
   by_cases h0:48≤r
   · have g0:decide (48≤r)=true:=decide_eq_true h0
     have g1:decide (r≤57)=false:=decide_eq_false (by omega);clear hm hn h0
     go_enter Try.func48,Try.ntmps48
     go_wp2
     go_ret
     exact ⟨rfl,rfl⟩
   · have g0:decide (48≤r)=false:=decide_eq_false h0
     clear hm hn h0
     go_enter Try.func48,Try.ntmps48
     go_wp2
     go_ret
     exact ⟨rfl,rfl⟩
 · rcases mrk_iff.1 hm with ⟨h0,h1⟩ | rfl | rfl | rfl | rfl | rfl | rfl
   · have g0:decide (48≤r)=true:=decide_eq_true h0
     have g1:decide (r≤57)=true:=decide_eq_true h1;clear hm h0 h1
     go_enter Try.func48,Try.ntmps48
     go_wp2
     go_ret
     exact ⟨rfl,rfl⟩
   all_goals
    clear hm
    go_enter Try.func48,Try.ntmps48
    go_wp2
    go_ret
    exact ⟨rfl,rfl⟩
end Go.Proofs.Ytohfadegildnaaa

set_option linter.all false
set_option maxRecDepth 100000
namespace Go.Proofs.Ytohfadegildnaaa
open Go.RowKit
open Lib (hid)
set_option maxHeartbeats 2000000 in
theorem qG8 (A:Option Addr) (n c:Nat) (ts:List Tok) (w:World) (h:Tks w A n ts) (hn9:n≤1000000000):Calls Try.prog 35 #[.slice A n c] w fun e w'=>
 ∃ A' m c',e=.returned (.tuple #[.slice A' m c',.agg #[.int .i64 (itms ts).2.1,.int .i64 (itms ts).2.2]])∧Hid (OwnI w' w.heap.size A' m c' (itms ts).1)∧Hid (Below w.heap.size w w'):=by
 have HL:=hid h.len
 have hn:=h.2.1
 have H:=hid h
 clear h
 generalize hg:w.heap.size=g at *
 have Hg:=hid hg
 clear hg
 have hgl:g≤w.heap.size:=by rw [Hg.out]; exact Nat.le_refl _
 have FB0:=FB.new w (.int .i64 0) (.int .i64 0)
 rw [Hg.out] at FB0
 have BW:=hid ((Below.refl g w).alloc hgl (.cells #[.int .i64 0,.int .i64 0] 29))
 generalize hW0:w.alloc (.cells #[.int .i64 0,.int .i64 0] 29)=W0 at *
 have hs0:W0.heap.size=g+1:=by rw [← hW0,World.size_alloc,Hg.out]
 have HW0:=hid hW0
 clear hW0
 have BQ:=hid (Below.refl (g+1) W0)
 have HT0:=hid (H.out.below (w':=W0) (by rw [Hg.out]; exact BW.out))
 go_enter Try.func35,Try.ntmps35
 go_wp2
 rw [HW0.out,Hg.out]
 go_loopw [4,5] (fun v iv wr=>∃ (k:Nat),k≤n∧iv=.int .i64 (k:Int)∧(ts.take k).find? badT=none∧wr.ownsRow (g+1) 57 2 v k (itsV ((ts.take k).map itm))∧Below (g+1) W0 wr) (fun _ iv _=>n - (intOf iv).toNat)
 case atStart=>exact ⟨0,Nat.zero_le _,rfl,rfl,World.ownsRow_nil _ _ _ _,BQ.out⟩
 case round=>
  obtain ⟨k,hk,rfl,hf0,ho0,hb0⟩:=hrel;have HF:=hid hf0;have HO:=hid ho0;have HB:=hid hb0;have hqs:g+1≤wr.heap.size:=by have:=hb0.size; omega
  have HT:=hid (HT0.out.below (w':=wr) (by rw [hs0]; exact hb0));have FBr:=hid (FB0.below hb0 (Nat.lt_succ_self g));clear hf0 hb0 ho0
  by_cases hlt:k < n
  · obtain ⟨ad,rfl,hab,c0,c1,c2,hr32⟩:=HT.out.at_ hlt
    have HFA:=hid (find_at (ts:=ts) (k:=k) (by rw [HL.out]; exact hlt) HF.out);have HFT:=hid (find_take (ts:=ts) (k:=k) (by rw [HL.out]; exact hlt) HF.out);have HS:=hid (qHE ts (k:=k) (by rw [HL.out]; exact hlt));have HTA:=HT.out.below ((Below.refl _ wr).alloc (Nat.le_refl _) (.cells #[.int .i64 1,.int .i32 (tk ts k).1] 57));obtain ⟨ad',e',_,d0,d1,d2,_⟩:=HTA.at_ hlt
    cases e'
    clear hr32 HTA;generalize tk ts k=t at *;obtain ⟨r,q,p⟩:=t;dsimp only at c0 c1 c2 d0 d1 d2;have BA:=hid (HB.out.alloc hqs (.cells #[.int .i64 1,.int .i32 r] 57));have OA:=hid (HO.out.alloc (.cells #[.int .i64 1,.int .i32 r] 57));have hqa:g+1≤(wr.alloc (.cells #[.int .i64 1,.int .i32 r] 57)).heap.size:=by simp; omega
    cases q
    · have HC:=hid (qHU r)
      rcases hm:mrk r with _ | _
      · rw [hm] at HC
        have HN:=hid (HFT.out (by simp [badT,hm]));have HC2:=hid (refSign_c r);clear hm
        by_cases hK:0 < sgK r
        · have HV:=hid (show itm (r,false,p)=(sgK r,0) from itm_s rfl (by dsimp only; omega))
          have g1:decide (0 < sgK r)=true:=decide_eq_true hK;have OB:=hid (HO.out.alloc (.cells #[.int .i64 (sgK r),.int .i32 0] 57));have BB:=hid (HB.out.alloc hqs (.cells #[.int .i64 (sgK r),.int .i32 0] 57));have hqb:g+1≤(wr.alloc (.cells #[.int .i64 (sgK r),.int .i32 0] 57)).heap.size:=by simp; omega
          generalize sgK r=K at *;clear hK
          go_wp2_with fail
          refine (HC.out _).mono ?_;rintro e w1 ⟨rfl,rfl⟩
          go_wp2_with fail
          refine (HC2.out _).mono ?_;rintro e w1 ⟨rfl,rfl⟩
          go_wp2_with (at_builtin; go_must (refine qC8 rfl (.tmp 42) (.tmp 44) _ rfl Try.underlying24 (g+1) u4 k ((ts.take k).map itm) rfl OB.out (K,0) (by rw [World.size_alloc]; rfl) (K) (0) rfl (by omega) BB.out hqb ?_))
          intro v' w' ho4 hb4 _
          go_wp2
          go_roundw
          case rel=>
           have e:(ts.take (k+1)).map itm=(ts.map itm).take k++[(K,0)]:=by rw [HS.out,List.map_append,List.map_take,List.map_cons,List.map_nil,HV.out]
           refine ⟨k+1,by omega,by go_num,HN.out,?_,hb4.out⟩;rw [e]; exact ho4.out
          case measure=>simp [intOf]; omega
        · have HV:=hid (show itm (r,false,p)=(1,r) from itm_p (by have:=qFJ r; dsimp only; omega))
          have g1:decide (0 < sgK r)=false:=decide_eq_false hK;generalize sgK r=K at *;clear hK
          go_wp2_with fail
          refine (HC.out _).mono ?_;rintro e w1 ⟨rfl,rfl⟩
          go_wp2_with fail
          refine (HC2.out _).mono ?_;rintro e w1 ⟨rfl,rfl⟩
          go_wp2_with (at_builtin; go_must (refine qC8 rfl (.tmp 42) (.tmp 44) _ rfl Try.underlying24 (g+1) u4 k ((ts.take k).map itm) rfl OA.out (1,r) (by rw [World.size_alloc]; rfl) (1) (r) rfl (by omega) BA.out hqa ?_))
          intro v' w' ho4 hb4 _
          go_wp2
          go_roundw
          case rel=>
           have e:(ts.take (k+1)).map itm=(ts.map itm).take k++[(1,r)]:=by rw [HS.out,List.map_append,List.map_take,List.map_cons,List.map_nil,HV.out]
           refine ⟨k+1,by omega,by go_num,HN.out,?_,hb4.out⟩;rw [e]; exact ho4.out
          case measure=>simp [intOf]; omega
      · rw [hm] at HC
        have HV:=hid (itms_bad (HFA.out (by simp [badT,hm])));have FB1:=FBr.out.alloc (.cells #[.int .i64 1,.int .i32 r] 57);clear hm
        go_wp2_with fail
        refine (HC.out _).mono ?_;rintro e w1 ⟨rfl,rfl⟩;generalize hWA:wr.alloc (.cells #[.int .i64 1,.int .i32 r] 57)=WA at *;have HWA:=hid hWA;clear hWA;have f0:=FB1.c0;have f1:=FB1.c1;have f2:=FB1.fr 0;have f3:=FB1.fr 1;have FE:=FB1.set (.int .i64 4) (.int .i64 p);have e0:=FE.c0;have e1:=FE.c1;have BE:=hid (Below.set2 (BW.out.trans (BA.out.mono (Nat.le_succ g))) (Nat.le_refl g) (.int .i64 4) (.int .i64 p));clear FE FB1
        go_wp2
        go_region
        all_goals go_wp2
        generalize hWE:(WA.setCell ⟨g,0,none⟩ (.int .i64 4)).setCell ⟨g,1,none⟩ (.int .i64 p)=WE at *;rw [HV.out];exact bodyPost_ret (v:=.tuple #[.slice none 0 0,.agg #[(.int .i64 4),(.int .i64 p)]]) (by simp [results,Try.results35,go_sem,e0,e1]) rfl ⟨_,_,_,rfl,hid (ownI_nil _ _),hid BE.out.drew⟩
    · have HN:=hid (HFT.out rfl)
      have HV:=hid (show itm (r,true,p)=(1,r) from itm_q rfl)
      go_wp2_with (at_builtin; go_must (refine qC8 rfl (.tmp 42) (.tmp 44) _ rfl Try.underlying24 (g+1) u4 k ((ts.take k).map itm) rfl OA.out (1,r) (by rw [World.size_alloc]; rfl) (1) (r) rfl (by omega) BA.out hqa ?_))
      intro v' w' ho4 hb4 _
      go_wp2
      go_roundw
      case rel=>
       have e:(ts.take (k+1)).map itm=(ts.map itm).take k++[(1,r)]:=by rw [HS.out,List.map_append,List.map_take,List.map_cons,List.map_nil,HV.out]
       refine ⟨k+1,by omega,by go_num,HN.out,?_,hb4.out⟩;rw [e]; exact ho4.out
      case measure=>simp [intOf]; omega
  · have hkm:k=n:=by omega
    subst hkm;rw [List.take_of_length_le (by rw [HL.out]; exact Nat.le_refl _)] at HF HO;obtain ⟨A7,c7,hA⟩:=qAN HO.out;subst hA
    by_cases hm:40 < k
    · have g1:decide ((40:Int) < (k:Int))=true:=decide_eq_true (by omega)
      have HV:=hid (qHG HF.out (by rw [HL.out]; exact hm));have FB1:=FBr.out;have f0:=FB1.c0;have f1:=FB1.c1;have f2:=FB1.fr 0;have f3:=FB1.fr 1;have FE:=FB1.set (.int .i64 8) (.int .i64 0);have e0:=FE.c0;have e1:=FE.c1;have BE:=hid (Below.set2 (BW.out.trans (HB.out.mono (Nat.le_succ g))) (Nat.le_refl g) (.int .i64 8) (.int .i64 0));clear FE FB1
      go_wp2
      generalize hWE:(wr.setCell ⟨g,0,none⟩ (.int .i64 8)).setCell ⟨g,1,none⟩ (.int .i64 0)=WE at *;rw [HV.out];exact bodyPost_ret (v:=.tuple #[.slice none 0 0,.agg #[(.int .i64 8),(.int .i64 0)]]) (by simp [results,Try.results35,go_sem,e0,e1]) rfl ⟨_,_,_,rfl,hid (ownI_nil _ _),BE⟩
    · have g1:decide ((40:Int) < (k:Int))=false:=decide_eq_false (by omega)
      have HV:=hid (itms_ok HF.out (by rw [HL.out]; exact hm));have FB3:=FBr.out;have f0:=FB3.c0;have f1:=FB3.c1;have f2:=FB3.fr 0;have f3:=FB3.fr 1;have FE:=FB3.set (.int .i64 0) (.int .i64 0);have e0:=FE.c0;have e1:=FE.c1;have BE:=hid (Below.set2 (BW.out.trans (HB.out.mono (Nat.le_succ g))) (Nat.le_refl g) (.int .i64 0) (.int .i64 0));have OE:=hid (show OwnI ((wr.setCell ⟨g,0,none⟩ (.int .i64 0)).setCell ⟨g,1,none⟩ (.int .i64 0)) g A7 k c7 (ts.map itm) from
       ⟨qEG (qB0 (qB0 HO.out (p:=⟨g,0,none⟩) (Nat.lt_succ_self g) _) (p:=⟨g,1,none⟩) (Nat.lt_succ_self g) _) (Nat.le_succ g),by omega,fun i hi=>by
        obtain ⟨t,ht,rfl⟩:=List.mem_map.1 hi;exact ri_itm (H.out.2.2 t ht)⟩)
      clear FE FB3
      go_wp2
      generalize hWE:(wr.setCell ⟨g,0,none⟩ (.int .i64 0)).setCell ⟨g,1,none⟩ (.int .i64 0)=WE at *;rw [HV.out];exact bodyPost_ret (v:=.tuple #[.slice A7 k c7,.agg #[(.int .i64 0),(.int .i64 0)]]) (by simp [results,Try.results35,go_sem,e0,e1]) rfl ⟨_,_,_,rfl,OE,BE⟩
end Go.Proofs.Ytohfadegildnaaa
