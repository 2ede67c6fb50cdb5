import Derived.Test.YtmeaiaecmmglnaaGreatDoorMB
set_option linter.all false
set_option maxRecDepth 100000
namespace Go.Proofs.YtmeaiaecmmglnaaGreatDoor
open Go.RowKit
open Lib (hid)
set_option maxHeartbeats 2000000 in
theorem affItems_c (A:Option Addr) (n c:Nat) (ts:List Tok) (w:World) (h:Tks w A n ts):Calls Tryz.prog 57 #[.slice A n c] w fun e w'=>
 ∃ A' m c',e=.returned (.tuple #[.slice A' m c',.agg #[.int .i64 (itms ts).2.1,.int .i64 (itms ts).2.2]])∧Hid (OwnI w' w.heap.size A' m c' (itms ts).1)∧Hid (Below w.heap.size w w'):=by
 have HL:=hid h.len
 have hn:=h.2.1
 have H:=hid h
 clear h
 generalize hg:w.heap.size=g at *
 have Hg:=hid hg
 clear hg
 have hgl:g≤w.heap.size:=by rw [Hg.out]; exact Nat.le_refl _
 have FB0:=FB.new w (.int .i64 0) (.int .i64 0)
 rw [Hg.out] at FB0
 have BW:=hid ((Below.refl g w).alloc hgl (.cells #[.int .i64 0,.int .i64 0] 28))
 generalize hW0:w.alloc (.cells #[.int .i64 0,.int .i64 0] 28)=W0 at *
 have hs0:W0.heap.size=g+1:=by rw [← hW0,World.size_alloc,Hg.out]
 have HW0:=hid hW0
 clear hW0
 have BQ:=hid (Below.refl (g+1) W0)
 have HT0:=hid (H.out.below (w':=W0) (by rw [Hg.out]; exact BW.out))
 go_enter Tryz.func57,Tryz.ntmps57
 go_wp2
 rw [HW0.out,Hg.out]
 go_loopw [11] (fun iv wr=>∃ (k:Nat),k≤n∧iv=.int .i64 (k:Int)∧(ts.take k).find? badT=none∧Below (g+1) W0 wr) (fun iv _=>n - (intOf iv).toNat)
 case atStart=>exact ⟨0,Nat.zero_le _,rfl,rfl,BQ.out⟩
 case round=>
  obtain ⟨k,hk,rfl,hf0,hb0⟩:=hrel;have HF:=hid hf0;have HB:=hid hb0;have hqs:g+1≤wr.heap.size:=by have:=hb0.size; omega
  have HT:=hid (HT0.out.below (w':=wr) (by rw [hs0]; exact hb0));have FBr:=hid (FB0.below hb0 (Nat.lt_succ_self g));clear hf0 hb0
  by_cases hlt:k < n
  · obtain ⟨ad,rfl,hab,c0,c1,c2,hr32⟩:=HT.out.at_ hlt
    have HFA:=hid (find_at (ts:=ts) (k:=k) (by rw [HL.out]; exact hlt) HF.out);have HFT:=hid (qK9 (ts:=ts) (k:=k) (by rw [HL.out]; exact hlt) HF.out);clear hr32;generalize tk ts k=t at *;obtain ⟨r,q,p⟩:=t;dsimp only at c0 c1 c2;have BA:=hid (HB.out.alloc hqs (.cells #[.int .i32 r,.bool q,.int .i64 p] 61))
    cases q
    · have HC:=hid (hasM_c r)
      rcases hm:mrk r with _ | _
      · rw [hm] at HC
        have HN:=hid (HFT.out (by simp [badT,hm]));clear hm
        go_wp2_with fail
        refine (HC.out _).mono ?_;rintro e w1 ⟨rfl,hb1⟩;have HB1:=hid (BA.out.trans (hb1.mono (by simp; omega)));clear hb1
        go_wp2
        go_roundw
        case rel=>exact ⟨k+1,by omega,by go_num,HN.out,HB1.out⟩
        case measure=>simp [intOf]; omega
      · rw [hm] at HC
        have HV:=hid (qGZ (HFA.out (by simp [badT,hm])));clear hm;have bx:=BX.new wr #[.int .i32 r,.bool false,.int .i64 p] 61
        go_wp2_with fail
        refine (HC.out _).mono ?_;rintro e w1 ⟨rfl,hb1⟩;have HB1:=hid (BA.out.trans (hb1.mono (by simp; omega)));have bx1:=bx.below hb1 (by simp);have b2:=bx1.v 2 rfl;have FB1:=FB0.below HB1.out (Nat.lt_succ_self g);clear hb1 bx bx1;have f0:=FB1.c0;have f1:=FB1.c1;have f2:=FB1.fr 0;have f3:=FB1.fr 1;have FE:=FB1.set (.int .i64 4) (.int .i64 p);have e0:=FE.c0;have e1:=FE.c1;have BE:=hid (Below.set2 (BW.out.trans (HB1.out.mono (Nat.le_succ g))) (Nat.le_refl g) (.int .i64 4) (.int .i64 p));clear FE FB1
        go_wp2
        go_region
        all_goals go_wp2
        generalize hWE:(w1.setCell ⟨g,0,none⟩ (.int .i64 4)).setCell ⟨g,1,none⟩ (.int .i64 p)=WE at *;rw [HV.out];exact bodyPost_ret (v:=.tuple #[.slice none 0 0,.agg #[(.int .i64 4),(.int .i64 p)]]) (by simp [results,Tryz.results57,go_sem,e0,e1]) rfl ⟨_,_,_,rfl,hid (qH1 _ _),hid BE.out.drew⟩
    · have HN:=hid (HFT.out rfl)
      go_wp2
      go_roundw
      case rel=>exact ⟨k+1,by omega,by go_num,HN.out,BA.out⟩
      case measure=>simp [intOf]; omega
  · rw [List.take_of_length_le (by rw [HL.out]; omega)] at HF
    by_cases hm:40 < n
    · have g1:decide ((40:Int) < (n:Int))=true:=decide_eq_true (by omega)
      have HV:=hid (qFN HF.out (by rw [HL.out]; exact hm));have FB1:=FBr.out;have f0:=FB1.c0;have f1:=FB1.c1;have f2:=FB1.fr 0;have f3:=FB1.fr 1;have FE:=FB1.set (.int .i64 8) (.int .i64 0);have e0:=FE.c0;have e1:=FE.c1;have BE:=hid (Below.set2 (BW.out.trans (HB.out.mono (Nat.le_succ g))) (Nat.le_refl g) (.int .i64 8) (.int .i64 0));clear FE FB1
      go_wp2
      generalize hWE:(wr.setCell ⟨g,0,none⟩ (.int .i64 8)).setCell ⟨g,1,none⟩ (.int .i64 0)=WE at *;rw [HV.out];exact bodyPost_ret (v:=.tuple #[.slice none 0 0,.agg #[(.int .i64 8),(.int .i64 0)]]) (by simp [results,Tryz.results57,go_sem,e0,e1]) rfl ⟨_,_,_,rfl,hid (qH1 _ _),BE⟩
    · have g1:decide ((40:Int) < (n:Int))=false:=decide_eq_false (by omega)
      have HV:=hid (qHQ HF.out (by rw [HL.out]; exact hm))
      go_wp2
      go_loopw [6,33] (fun v iv wr=>∃ (k:Nat),k≤n∧iv=.int .i64 (k:Int)∧wr.ownsRow (g+1) 53 2 v k (itsV ((ts.take k).map itm))∧Below (g+1) W0 wr) (fun _ iv _=>n - (intOf iv).toNat)
      case atStart=>exact ⟨0,Nat.zero_le _,rfl,World.ownsRow_nil _ _ _ _,HB.out⟩
      case round=>
       clear HF HB HT FBr hqs;obtain ⟨k,hk,rfl,ho0,hb0⟩:=hrel;have HO:=hid ho0;have HB:=hid hb0;have hqs:g+1≤wr.heap.size:=by have:=hb0.size; omega
       have HT:=hid (HT0.out.below (w':=wr) (by rw [hs0]; exact hb0));have FBr:=hid (FB0.below hb0 (Nat.lt_succ_self g));clear ho0 hb0
       by_cases hlt:k < n
       · obtain ⟨ad,rfl,hab,c0,c1,c2,hr32⟩:=HT.out.at_ hlt
         have HS:=hid (qE7 ts (k:=k) (by rw [HL.out]; exact hlt));clear hr32;generalize tk ts k=t at *;obtain ⟨r,q,p⟩:=t;dsimp only at c0 c1 c2;have BA:=hid (HB.out.alloc hqs (.cells #[.int .i32 r,.bool q,.int .i64 p] 61));have OA:=hid (HO.out.alloc (.cells #[.int .i32 r,.bool q,.int .i64 p] 61))
         go_wp2_with fail
         refine (item_c r q p _).mono ?_;rintro e w3 ⟨rfl,hb3⟩;have HO3:=hid (qCH OA.out hb3 rfl);have HB3:=hid (BA.out.trans (hb3.mono (by simp; omega)));have hqs3:g+1≤w3.heap.size:=by have:=hb3.size; simp at this; omega
         clear hb3
         go_wp2_with (at_builtin; go_must (refine qC6 rfl (.tmp 37) (.tmp 40) _ rfl Tryz.underlying23 (g+1) u6 k ((ts.take k).map itm) rfl HO3.out (itm (r,q,p)) rfl (itm (r,q,p)).1 (itm (r,q,p)).2 rfl (by omega) HB3.out hqs3 ?_))
         intro v' w' ho4 hb4 _
         go_wp2
         go_roundw
         case rel=>
          refine ⟨k+1,by omega,by go_num,?_,hb4.out⟩;have e:(ts.take (k+1)).map itm=(ts.map itm).take k++[itm (r,q,p)]:=by rw [HS.out,List.map_append,List.map_take]; rfl
          rw [e]; exact ho4.out
         case measure=>simp [intOf]; omega
       · have hkm:k=n:=by omega
         subst hkm;rw [List.take_of_length_le (by rw [HL.out]; exact Nat.le_refl _)] at HO;obtain ⟨A7,c7,hA⟩:=qAL HO.out;subst hA;have FB3:=FBr.out;have f0:=FB3.c0;have f1:=FB3.c1;have f2:=FB3.fr 0;have f3:=FB3.fr 1;have FE:=FB3.set (.int .i64 0) (.int .i64 0);have e0:=FE.c0;have e1:=FE.c1;have BE:=hid (Below.set2 (BW.out.trans (HB.out.mono (Nat.le_succ g))) (Nat.le_refl g) (.int .i64 0) (.int .i64 0));have OE:=hid (show OwnI ((wr.setCell ⟨g,0,none⟩ (.int .i64 0)).setCell ⟨g,1,none⟩ (.int .i64 0)) g A7 k c7 (ts.map itm) from
          ⟨qBZ (qAD (qAD HO.out (p:=⟨g,0,none⟩) (Nat.lt_succ_self g) _) (p:=⟨g,1,none⟩) (Nat.lt_succ_self g) _) (Nat.le_succ g),by omega,fun i hi=>by
           obtain ⟨t,ht,rfl⟩:=List.mem_map.1 hi;exact ri_itm (H.out.2.2 t ht)⟩)
         clear FE FB3
         go_wp2
         generalize hWE:(wr.setCell ⟨g,0,none⟩ (.int .i64 0)).setCell ⟨g,1,none⟩ (.int .i64 0)=WE at *;rw [HV.out];exact bodyPost_ret (v:=.tuple #[.slice A7 k c7,.agg #[(.int .i64 0),(.int .i64 0)]]) (by simp [results,Tryz.results57,go_sem,e0,e1]) rfl ⟨_,_,_,rfl,OE,BE⟩
end Go.Proofs.YtmeaiaecmmglnaaGreatDoor
