import Derived.Test.YtnoeonaajefajaaGreatDoorQMB
set_option linter.all false
set_option maxRecDepth 100000
namespace Go.Proofs.YtnoeonaajefajaaGreatDoor
open Go.RowKit
open Lib (hid)
set_option maxHeartbeats 2000000 in
theorem affItems_c (A:Option Addr) (n c:Nat) (ts:List Tok) (w:World) (h:Tks w A n ts):Calls Tryz.prog 128 #[.slice A n c] w fun e w'=>
 ∃ A' m c',e=.returned (.tuple #[.slice A' m c',.agg #[.int .i64 (itms ts).2.1,.int .i64 (itms ts).2.2]])∧Hid (OwnI w' w.heap.size A' m c' (itms ts).1)∧Hid (Below w.heap.size w w'):=by
 have HL:=hid h.len
 have hn:=h.2.1
 have H:=hid h
 clear h
 generalize hg:w.heap.size=g at *
 have Hg:=hid hg
 clear hg
 have hgl:g≤w.heap.size:=by rw [Hg.out]; exact Nat.le_refl _
 have FB0:=FB.new w (.int .i64 0) (.int .i64 0)
 rw [Hg.out] at FB0
 have BW:=hid ((Below.refl g w).alloc hgl (.cells #[.int .i64 0,.int .i64 0] 27))
 generalize hW0:w.alloc (.cells #[.int .i64 0,.int .i64 0] 27)=W0 at *
 have hs0:W0.heap.size=g+1:=by rw [← hW0,World.size_alloc,Hg.out]
 have HW0:=hid hW0
 clear hW0
 have BQ:=hid (Below.refl (g+1) W0)
 have HT0:=hid (H.out.below (w':=W0) (by rw [Hg.out]; exact BW.out))
 go_enter Tryz.func128,Tryz.ntmps128
 go_wp2
 rw [HW0.out,Hg.out]
 go_loopw [11] (fun iv wr=>∃ (k:Nat),k≤n∧iv=.int .i64 (k:Int)∧(ts.take k).find? badT=none∧Below (g+1) W0 wr) (fun iv _=>n - (intOf iv).toNat)
 case atStart=>exact ⟨0,Nat.zero_le _,rfl,rfl,BQ.out⟩
 case round=>
  obtain ⟨k,hk,rfl,hf0,hb0⟩:=hrel;have HF:=hid hf0;have HB:=hid hb0;have hqs:g+1≤wr.heap.size:=by have:=hb0.size; omega
  have HT:=hid (HT0.out.below (w':=wr) (by rw [hs0]; exact hb0));have FBr:=hid (FB0.below hb0 (Nat.lt_succ_self g));clear hf0 hb0
  by_cases hlt:k < n
  · obtain ⟨ad,rfl,hab,c0,c1,c2,hr32⟩:=HT.out.at_ hlt
    have HFA:=hid (find_at (ts:=ts) (k:=k) (by rw [HL.out]; exact hlt) HF.out);have HFT:=hid (qLL (ts:=ts) (k:=k) (by rw [HL.out]; exact hlt) HF.out);clear hr32;generalize tk ts k=t at *;obtain ⟨r,q,p⟩:=t;dsimp only at c0 c1 c2;have BA:=hid (HB.out.alloc hqs (.cells #[.int .i32 r,.bool q,.int .i64 p] 58))
    cases q
    · have HC:=hid (hasM_c r)
      rcases hm:mrk r with _ | _
      · rw [hm] at HC
        have HN:=hid (HFT.out (by simp [badT,hm]));clear hm
        go_wp2_with fail
        refine (HC.out _).mono ?_;rintro e w1 ⟨rfl,hb1⟩;have HB1:=hid (BA.out.trans (hb1.mono (by simp; omega)));clear hb1
        go_wp2
        go_roundw
        case rel=>exact ⟨k+1,by omega,by go_num,HN.out,HB1.out⟩
        case measure=>simp [intOf]; omega
      · rw [hm] at HC
        have HV:=hid (qG4 (HFA.out (by simp [badT,hm])));clear hm;have bx:=BX.new wr #[.int .i32 r,.bool false,.int .i64 p] 58
        go_wp2_with fail
        refine (HC.out _).mono ?_;rintro e w1 ⟨rfl,hb1⟩;have HB1:=hid (BA.out.trans (hb1.mono (by simp; omega)));have bx1:=bx.below hb1 (by simp);have b2:=bx1.v 2 rfl;have FB1:=FB0.below HB1.out (Nat.lt_succ_self g);clear hb1 bx bx1;have f0:=FB1.c0;have f1:=FB1.c1;have f2:=FB1.fr 0;have f3:=FB1.fr 1;have FE:=FB1.set (.int .i64 4) (.int .i64 p);have e0:=FE.c0;have e1:=FE.c1;have BE:=hid (Below.set2 (BW.out.trans (HB1.out.mono (Nat.le_succ g))) (Nat.le_refl g) (.int .i64 4) (.int .i64 p));clear FE FB1
        go_wp2
        go_region
        all_goals go_wp2
        generalize hWE:(w1.setCell ⟨g,0,none⟩ (.int .i64 4)).setCell ⟨g,1,none⟩ (.int .i64 p)=WE at *;rw [HV.out];exact bodyPost_ret (v:=.tuple #[.slice none 0 0,.agg #[(.int .i64 4),(.int .i64 p)]]) (by simp [results,Tryz.results128,go_sem,e0,e1]) rfl ⟨_,_,_,rfl,hid (qHK _ _),hid BE.out.drew⟩
    · have HN:=hid (HFT.out rfl)
      go_wp2
      go_roundw
      case rel=>exact ⟨k+1,by omega,by go_num,HN.out,BA.out⟩
      case measure=>simp [intOf]; omega
  · rw [List.take_of_length_le (by rw [HL.out]; omega)] at HF
    by_cases hm:40 < n
    · have g1:decide ((40:Int) < (n:Int))=true:=decide_eq_true (by omega)
      have HV:=hid (qEI HF.out (by rw [HL.out]; exact hm));have FB1:=FBr.out;have f0:=FB1.c0;have f1:=FB1.c1;have f2:=FB1.fr 0;have f3:=FB1.fr 1;have FE:=FB1.set (.int .i64 8) (.int .i64 0);have e0:=FE.c0;have e1:=FE.c1;have BE:=hid (Below.set2 (BW.out.trans (HB.out.mono (Nat.le_succ g))) (Nat.le_refl g) (.int .i64 8) (.int .i64 0));clear FE FB1
      go_wp2
      generalize hWE:(wr.setCell ⟨g,0,none⟩ (.int .i64 8)).setCell ⟨g,1,none⟩ (.int .i64 0)=WE at *;rw [HV.out];exact bodyPost_ret (v:=.tuple #[.slice none 0 0,.agg #[(.int .i64 8),(.int .i64 0)]]) (by simp [results,Tryz.results128,go_sem,e0,e1]) rfl ⟨_,_,_,rfl,hid (qHK _ _),BE⟩
    · have g1:decide ((40:Int) < (n:Int))=false:=decide_eq_false (by omega)
      have HV:=hid (qGU HF.out (by rw [HL.out]; exact hm))
      go_wp2
      go_loopw [6,33] (fun v iv wr=>∃ (k:Nat),k≤n∧iv=.int .i64 (k:Int)∧wr.ownsRow (g+1) 67 2 v k (itsV ((ts.take k).map itm))∧Below (g+1) W0 wr) (fun _ iv _=>n - (intOf iv).toNat)
      case atStart=>exact ⟨0,Nat.zero_le _,rfl,World.ownsRow_nil _ _ _ _,HB.out⟩
      case round=>
       clear HF HB HT FBr hqs;obtain ⟨k,hk,rfl,ho0,hb0⟩:=hrel;have HO:=hid ho0;have HB:=hid hb0;have hqs:g+1≤wr.heap.size:=by have:=hb0.size; omega
       have HT:=hid (HT0.out.below (w':=wr) (by rw [hs0]; exact hb0));have FBr:=hid (FB0.below hb0 (Nat.lt_succ_self g));clear ho0 hb0
       by_cases hlt:k < n
       · obtain ⟨ad,rfl,hab,c0,c1,c2,hr32⟩:=HT.out.at_ hlt
         have HS:=hid (qD0 ts (k:=k) (by rw [HL.out]; exact hlt));clear hr32;generalize tk ts k=t at *;obtain ⟨r,q,p⟩:=t;dsimp only at c0 c1 c2;have BA:=hid (HB.out.alloc hqs (.cells #[.int .i32 r,.bool q,.int .i64 p] 58));have OA:=hid (HO.out.alloc (.cells #[.int .i32 r,.bool q,.int .i64 p] 58))
         go_wp2_with fail
         refine (item_c r q p _).mono ?_;rintro e w3 ⟨rfl,hb3⟩;have HO3:=hid (qAV OA.out hb3 rfl);have HB3:=hid (BA.out.trans (hb3.mono (by simp; omega)));have hqs3:g+1≤w3.heap.size:=by have:=hb3.size; simp at this; omega
         clear hb3
         go_wp2_with (at_builtin; go_must (refine qCC rfl (.tmp 37) (.tmp 40) _ rfl Tryz.underlying22 (g+1) u6 k ((ts.take k).map itm) rfl HO3.out (itm (r,q,p)) rfl (itm (r,q,p)).1 (itm (r,q,p)).2 rfl (by omega) HB3.out hqs3 ?_))
         intro v' w' ho4 hb4 _
         go_wp2
         go_roundw
         case rel=>
          refine ⟨k+1,by omega,by go_num,?_,hb4.out⟩;have e:(ts.take (k+1)).map itm=(ts.map itm).take k++[itm (r,q,p)]:=by rw [HS.out,List.map_append,List.map_take]; rfl
          rw [e]; exact ho4.out
         case measure=>simp [intOf]; omega
       · have hkm:k=n:=by omega
         subst hkm;rw [List.take_of_length_le (by rw [HL.out]; exact Nat.le_refl _)] at HO;obtain ⟨A7,c7,hA⟩:=qAJ HO.out;subst hA;have FB3:=FBr.out;have f0:=FB3.c0;have f1:=FB3.c1;have f2:=FB3.fr 0;have f3:=FB3.fr 1;have FE:=FB3.set (.int .i64 0) (.int .i64 0);have e0:=FE.c0;have e1:=FE.c1;have BE:=hid (Below.set2 (BW.out.trans (HB.out.mono (Nat.le_succ g))) (Nat.le_refl g) (.int .i64 0) (.int .i64 0));have OE:=hid (show OwnI ((wr.setCell ⟨g,0,none⟩ (.int .i64 0)).setCell ⟨g,1,none⟩ (.int .i64 0)) g A7 k c7 (ts.map itm) from
          ⟨qC5 (qAH (qAH HO.out (p:=⟨g,0,none⟩) (Nat.lt_succ_self g) _) (p:=⟨g,1,none⟩) (Nat.lt_succ_self g) _) (Nat.le_succ g),by omega,fun i hi=>by
           obtain ⟨t,ht,rfl⟩:=List.mem_map.1 hi;exact ri_itm (H.out.2.2 t ht)⟩)
         clear FE FB3
         go_wp2
         generalize hWE:(wr.setCell ⟨g,0,none⟩ (.int .i64 0)).setCell ⟨g,1,none⟩ (.int .i64 0)=WE at *;rw [HV.out];exact bodyPost_ret (v:=.tuple #[.slice A7 k c7,.agg #[(.int .i64 0),(.int .i64 0)]]) (by simp [results,Tryz.results128,go_sem,e0,e1]) rfl ⟨_,_,_,rfl,OE,BE⟩
set_option maxHeartbeats 2000000 in
theorem affTokens_c (A:Option Addr) (n c:Nat) (is:List Itm) (w:World) (h:Its w A n is) (hn:n≤10000000000):Calls Tryz.prog 113 #[.slice A n c] w fun e w'=>
 ∃ A' m c',e=.returned (.slice A' m c')∧Hid (OwnT w' w.heap.size A' m c' (tksI is))∧Hid (Below w.heap.size w w'):=by
 have HL:=hid h.len
 have H:=hid h
 clear h
 generalize hg:w.heap.size=g at *
 have Hg:=hid hg
 clear hg
 have B0:=hid (show Below g w w by rw [← Hg.out]; exact Below.refl _ _)
 go_enter Tryz.func113,Tryz.ntmps113
 go_wp2
 go_loopw [3,10] (fun v iv wr=>∃ (k:Nat),k≤n∧iv=.int .i64 (k:Int)∧(is.take k).all mayI=true∧wr.ownsRow g 58 3 v k (qCL ((is.take k).map tkI))∧Below g w wr) (fun _ iv _=>n - (intOf iv).toNat)
 case atStart=>exact ⟨0,Nat.zero_le _,rfl,rfl,World.ownsRow_nil _ _ _ _,B0.out⟩
 case round=>
  obtain ⟨k,hk,rfl,hall0,ho0,hb0⟩:=hrel;have HALL:=hid hall0;have HO:=hid ho0;have HB:=hid hb0;have hqs:g≤wr.heap.size:=by have:=hb0.size; have:=Hg.out; omega
  have HT:=hid (H.out.below (w':=wr) (by rw [Hg.out]; exact hb0));clear hall0 ho0 hb0
  by_cases hlt:k < n
  · obtain ⟨ad,rfl,hab,c0,c1,hri⟩:=HT.out.at_ hlt
    have HS:=hid (qH5 is (k:=k) (by rw [HL.out]; exact hlt));have HMEM:=hid (im_mem (is:=is) (k:=k) (by rw [HL.out]; exact hlt));clear hri;generalize im is k=i at *;obtain ⟨a,r⟩:=i;dsimp only at c0 c1;have BA:=hid (HB.out.alloc hqs (.cells #[.int .i64 a,.int .i32 r] 67));have OA:=hid (HO.out.alloc (.cells #[.int .i64 a,.int .i32 r] 67));have HC:=hid (affTell_c a r)
    rcases hm:mayI (a,r) with _ | _
    · rw [tlI_no hm,hm] at HC
      have HV:=hid (tksI_no (is:=is) (by
       rw [Bool.eq_false_iff];intro ha;rw [List.all_eq_true.1 ha _ HMEM.out] at hm; cases hm))
      clear hm
      go_wp2_with fail
      refine (HC.out _).mono ?_;rintro e w1 ⟨rfl,hb1⟩;have HB1:=hid (BA.out.trans (hb1.mono (by simp; omega)));have hqs1:g≤w1.heap.size:=by have:=hb1.size; simp at this; omega
      clear hb1
      go_wp2
      go_ret
      rw [HV.out];exact ⟨_,_,_,rfl,hid (qCZ _ _),hid (HB1.out.alloc hqs1 _)⟩
    · rw [qKD hm,hm] at HC
      have HM:=hid hm;have HTE:=hid (show tkI (a,r)=tkI (a,r) from rfl);generalize hti:tkI (a,r)=T at HC HTE;have HTI:=hid hti;obtain ⟨x,y,z⟩:=T;dsimp only at HC;clear hm hti HTE
      go_wp2_with fail
      refine (HC.out _).mono ?_;rintro e w1 ⟨rfl,hb1⟩;have HO1:=hid (qAV OA.out hb1 rfl);have HB1:=hid (BA.out.trans (hb1.mono (by simp; omega)));have hqs1:g≤w1.heap.size:=by have:=hb1.size; simp at this; omega
      have HO2:=hid (HO1.out.alloc (.cells #[.int .i32 x,.bool y,.int .i64 z] 58));have HB2:=hid (HB1.out.alloc hqs1 (.cells #[.int .i32 x,.bool y,.int .i64 z] 58));have hqs2:g≤(w1.alloc (.cells #[.int .i32 x,.bool y,.int .i64 z] 58)).heap.size:=by simp; omega
      clear hb1
      go_wp2_with (at_builtin; go_must (refine qAF rfl (.tmp 21) (.tmp 23) _ rfl Tryz.underlying36 g u3 k ((is.take k).map tkI) rfl HO2.out (x,y,z) (by rw [World.size_alloc]; rfl) x y z rfl (by omega) HB2.out hqs2 ?_))
      intro v' w' ho4 hb4 _
      go_wp2
      go_roundw
      case rel=>
       refine ⟨k+1,by omega,by go_num,?_,?_,hb4.out⟩
       · rw [HS.out,List.all_append,HALL.out]; simp [HM.out]
       · have e:(is.take (k+1)).map tkI=(is.map tkI).take k++[(x,y,z)]:=by rw [HS.out,List.map_append,List.map_take,List.map_cons,List.map_nil,HTI.out]
         rw [e]; exact ho4.out
      case measure=>simp [intOf]; omega
  · have hkm:k=n:=by omega
    subst hkm;rw [List.take_of_length_le (by rw [HL.out]; exact Nat.le_refl _)] at HO HALL;obtain ⟨A7,c7,hA⟩:=qAJ HO.out;subst hA
    go_wp2
    go_ret
    rw [qG5 HALL.out];refine ⟨_,_,_,rfl,hid ⟨HO.out,hn,fun t ht=>?_⟩,HB⟩;obtain ⟨i,hi,rfl⟩:=List.mem_map.1 ht;exact r32_tkI (H.out.2.2 i hi)
theorem qF5 (A:Option Addr) (n c:Nat) (is:List Itm) (w:World) (h:Its w A n is) (hn:n≤100000000):Calls Tryz.prog 75 #[.slice A n c] w fun e w'=>
 e=.returned (.string (prtZ (tksI is)))∧Hid (Below w.heap.size w w'):=by
 have HC:=hid (affTokens_c A n c is w h (by omega))
 have hl:=h.len
 have hl2:=tksI_len is
 rw [hl] at hl2
 clear h hl
 go_enter Tryz.func75,Tryz.ntmps75
 go_wp2_with fail
 refine HC.out.mono ?_
 rintro e w1 ⟨A1,m1,c1,rfl,ho1,hb1⟩
 have hm:=ho1.out.len
 go_wp2_with fail
 refine (qJ7 A1 m1 c1 _ w1 ho1.out.tks (by omega)).mono ?_
 rintro e w2 ⟨rfl,hb2⟩
 have HB2:=hid (hb1.out.trans (hb2.out.mono hb1.out.size))
 clear hb2 HC
 go_wp2
 go_ret
 exact ⟨rfl,HB2⟩
end Go.Proofs.YtnoeonaajefajaaGreatDoor
