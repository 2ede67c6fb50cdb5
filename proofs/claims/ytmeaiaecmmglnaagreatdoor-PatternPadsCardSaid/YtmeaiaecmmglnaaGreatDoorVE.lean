import Derived.Test.YtmeaiaecmmglnaaGreatDoorVD
set_option linter.all false
set_option maxRecDepth 100000
namespace Go.Proofs.YtmeaiaecmmglnaaGreatDoor
open Go.RowKit
open Lib (hid)
set_option maxHeartbeats 2000000 in
theorem qIX (A:Option Addr) (n c:Nat) (ts:List Tok) (w:World) (h:Tks w A n ts) (hn9:n≤1000000000):Calls Tryz.prog 46 #[.slice A n c] w fun e w'=>
 ∃ A' m c',e=.returned (.tuple #[.slice A' m c',.agg #[.int .i64 (itms ts).2.1,.int .i64 (itms ts).2.2]])∧Hid (OwnI w' w.heap.size A' m c' (itms ts).1)∧Hid (Below w.heap.size w w'):=by
 have HL:=hid h.len
 have hn:=h.2.1
 have H:=hid h
 clear h
 generalize hg:w.heap.size=g at *
 have Hg:=hid hg
 clear hg
 have hgl:g≤w.heap.size:=by rw [Hg.out]; exact Nat.le_refl _
 have FB0:=FB.new w (.int .i64 0) (.int .i64 0)
 rw [Hg.out] at FB0
 have BW:=hid ((Below.refl g w).alloc hgl (.cells #[.int .i64 0,.int .i64 0] 28))
 generalize hW0:w.alloc (.cells #[.int .i64 0,.int .i64 0] 28)=W0 at *
 have hs0:W0.heap.size=g+1:=by rw [← hW0,World.size_alloc,Hg.out]
 have HW0:=hid hW0
 clear hW0
 have BQ:=hid (Below.refl (g+1) W0)
 have HT0:=hid (H.out.below (w':=W0) (by rw [Hg.out]; exact BW.out))
 go_enter Tryz.func46,Tryz.ntmps46
 go_wp2
 rw [HW0.out,Hg.out]
 go_loopw [4,5] (fun v iv wr=>∃ (k:Nat),k≤n∧iv=.int .i64 (k:Int)∧(ts.take k).find? badT=none∧wr.ownsRow (g+1) 53 2 v k (itsV ((ts.take k).map itm))∧Below (g+1) W0 wr) (fun _ iv _=>n - (intOf iv).toNat)
 case atStart=>exact ⟨0,Nat.zero_le _,rfl,rfl,World.ownsRow_nil _ _ _ _,BQ.out⟩
 case round=>
  obtain ⟨k,hk,rfl,hf0,ho0,hb0⟩:=hrel;have HF:=hid hf0;have HO:=hid ho0;have HB:=hid hb0;have hqs:g+1≤wr.heap.size:=by have:=hb0.size; omega
  have HT:=hid (HT0.out.below (w':=wr) (by rw [hs0]; exact hb0));have FBr:=hid (FB0.below hb0 (Nat.lt_succ_self g));clear hf0 hb0 ho0
  by_cases hlt:k < n
  · obtain ⟨ad,rfl,hab,c0,c1,c2,hr32⟩:=HT.out.at_ hlt
    have HFA:=hid (find_at (ts:=ts) (k:=k) (by rw [HL.out]; exact hlt) HF.out);have HFT:=hid (qK9 (ts:=ts) (k:=k) (by rw [HL.out]; exact hlt) HF.out);have HS:=hid (qE7 ts (k:=k) (by rw [HL.out]; exact hlt));have HTA:=HT.out.below ((Below.refl _ wr).alloc (Nat.le_refl _) (.cells #[.int .i64 1,.int .i32 (tk ts k).1] 53));obtain ⟨ad',e',_,d0,d1,d2,_⟩:=HTA.at_ hlt
    cases e'
    clear hr32 HTA;generalize tk ts k=t at *;obtain ⟨r,q,p⟩:=t;dsimp only at c0 c1 c2 d0 d1 d2;have BA:=hid (HB.out.alloc hqs (.cells #[.int .i64 1,.int .i32 r] 53));have OA:=hid (HO.out.alloc (.cells #[.int .i64 1,.int .i32 r] 53));have hqa:g+1≤(wr.alloc (.cells #[.int .i64 1,.int .i32 r] 53)).heap.size:=by simp; omega
    cases q
    · have HC:=hid (qIB r)
      rcases hm:mrk r with _ | _
      · rw [hm] at HC
        have HN:=hid (HFT.out (by simp [badT,hm]));have HC2:=hid (qL2 r);clear hm
        by_cases hK:0 < sgK r
        · have HV:=hid (show itm (r,false,p)=(sgK r,0) from itm_s rfl (by dsimp only; omega))
          have g1:decide (0 < sgK r)=true:=decide_eq_true hK;have OB:=hid (HO.out.alloc (.cells #[.int .i64 (sgK r),.int .i32 0] 53));have BB:=hid (HB.out.alloc hqs (.cells #[.int .i64 (sgK r),.int .i32 0] 53));have hqb:g+1≤(wr.alloc (.cells #[.int .i64 (sgK r),.int .i32 0] 53)).heap.size:=by simp; omega
          generalize sgK r=K at *;clear hK
          go_wp2_with fail
          refine (HC.out _).mono ?_;rintro e w1 ⟨rfl,rfl⟩
          go_wp2_with fail
          refine (HC2.out _).mono ?_;rintro e w1 ⟨rfl,rfl⟩
          go_wp2_with (at_builtin; go_must (refine qC6 rfl (.tmp 42) (.tmp 44) _ rfl Tryz.underlying23 (g+1) u4 k ((ts.take k).map itm) rfl OB.out (K,0) (by rw [World.size_alloc]; rfl) (K) (0) rfl (by omega) BB.out hqb ?_))
          intro v' w' ho4 hb4 _
          go_wp2
          go_roundw
          case rel=>
           have e:(ts.take (k+1)).map itm=(ts.map itm).take k++[(K,0)]:=by rw [HS.out,List.map_append,List.map_take,List.map_cons,List.map_nil,HV.out]
           refine ⟨k+1,by omega,by go_num,HN.out,?_,hb4.out⟩;rw [e]; exact ho4.out
          case measure=>simp [intOf]; omega
        · have HV:=hid (show itm (r,false,p)=(1,r) from itm_p (by have:=qHP r; dsimp only; omega))
          have g1:decide (0 < sgK r)=false:=decide_eq_false hK;generalize sgK r=K at *;clear hK
          go_wp2_with fail
          refine (HC.out _).mono ?_;rintro e w1 ⟨rfl,rfl⟩
          go_wp2_with fail
          refine (HC2.out _).mono ?_;rintro e w1 ⟨rfl,rfl⟩
          go_wp2_with (at_builtin; go_must (refine qC6 rfl (.tmp 42) (.tmp 44) _ rfl Tryz.underlying23 (g+1) u4 k ((ts.take k).map itm) rfl OA.out (1,r) (by rw [World.size_alloc]; rfl) (1) (r) rfl (by omega) BA.out hqa ?_))
          intro v' w' ho4 hb4 _
          go_wp2
          go_roundw
          case rel=>
           have e:(ts.take (k+1)).map itm=(ts.map itm).take k++[(1,r)]:=by rw [HS.out,List.map_append,List.map_take,List.map_cons,List.map_nil,HV.out]
           refine ⟨k+1,by omega,by go_num,HN.out,?_,hb4.out⟩;rw [e]; exact ho4.out
          case measure=>simp [intOf]; omega
      · rw [hm] at HC
        have HV:=hid (qGZ (HFA.out (by simp [badT,hm])));have FB1:=FBr.out.alloc (.cells #[.int .i64 1,.int .i32 r] 53);clear hm
        go_wp2_with fail
        refine (HC.out _).mono ?_;rintro e w1 ⟨rfl,rfl⟩;generalize hWA:wr.alloc (.cells #[.int .i64 1,.int .i32 r] 53)=WA at *;have HWA:=hid hWA;clear hWA;have f0:=FB1.c0;have f1:=FB1.c1;have f2:=FB1.fr 0;have f3:=FB1.fr 1;have FE:=FB1.set (.int .i64 4) (.int .i64 p);have e0:=FE.c0;have e1:=FE.c1;have BE:=hid (Below.set2 (BW.out.trans (BA.out.mono (Nat.le_succ g))) (Nat.le_refl g) (.int .i64 4) (.int .i64 p));clear FE FB1
        go_wp2
        go_region
        all_goals go_wp2
        generalize hWE:(WA.setCell ⟨g,0,none⟩ (.int .i64 4)).setCell ⟨g,1,none⟩ (.int .i64 p)=WE at *;rw [HV.out];exact bodyPost_ret (v:=.tuple #[.slice none 0 0,.agg #[(.int .i64 4),(.int .i64 p)]]) (by simp [results,Tryz.results46,go_sem,e0,e1]) rfl ⟨_,_,_,rfl,hid (qH1 _ _),hid BE.out.drew⟩
    · have HN:=hid (HFT.out rfl)
      have HV:=hid (show itm (r,true,p)=(1,r) from itm_q rfl)
      go_wp2_with (at_builtin; go_must (refine qC6 rfl (.tmp 42) (.tmp 44) _ rfl Tryz.underlying23 (g+1) u4 k ((ts.take k).map itm) rfl OA.out (1,r) (by rw [World.size_alloc]; rfl) (1) (r) rfl (by omega) BA.out hqa ?_))
      intro v' w' ho4 hb4 _
      go_wp2
      go_roundw
      case rel=>
       have e:(ts.take (k+1)).map itm=(ts.map itm).take k++[(1,r)]:=by rw [HS.out,List.map_append,List.map_take,List.map_cons,List.map_nil,HV.out]
       refine ⟨k+1,by omega,by go_num,HN.out,?_,hb4.out⟩;rw [e]; exact ho4.out
      case measure=>simp [intOf]; omega
  · have hkm:k=n:=by omega
    subst hkm;rw [List.take_of_length_le (by rw [HL.out]; exact Nat.le_refl _)] at HF HO;obtain ⟨A7,c7,hA⟩:=qAL HO.out;subst hA
    by_cases hm:40 < k
    · have g1:decide ((40:Int) < (k:Int))=true:=decide_eq_true (by omega)
      have HV:=hid (qFN HF.out (by rw [HL.out]; exact hm));have FB1:=FBr.out;have f0:=FB1.c0;have f1:=FB1.c1;have f2:=FB1.fr 0;have f3:=FB1.fr 1;have FE:=FB1.set (.int .i64 8) (.int .i64 0);have e0:=FE.c0;have e1:=FE.c1;have BE:=hid (Below.set2 (BW.out.trans (HB.out.mono (Nat.le_succ g))) (Nat.le_refl g) (.int .i64 8) (.int .i64 0));clear FE FB1
      go_wp2
      generalize hWE:(wr.setCell ⟨g,0,none⟩ (.int .i64 8)).setCell ⟨g,1,none⟩ (.int .i64 0)=WE at *;rw [HV.out];exact bodyPost_ret (v:=.tuple #[.slice none 0 0,.agg #[(.int .i64 8),(.int .i64 0)]]) (by simp [results,Tryz.results46,go_sem,e0,e1]) rfl ⟨_,_,_,rfl,hid (qH1 _ _),BE⟩
    · have g1:decide ((40:Int) < (k:Int))=false:=decide_eq_false (by omega)
      have HV:=hid (qHQ HF.out (by rw [HL.out]; exact hm));have FB3:=FBr.out;have f0:=FB3.c0;have f1:=FB3.c1;have f2:=FB3.fr 0;have f3:=FB3.fr 1;have FE:=FB3.set (.int .i64 0) (.int .i64 0);have e0:=FE.c0;have e1:=FE.c1;have BE:=hid (Below.set2 (BW.out.trans (HB.out.mono (Nat.le_succ g))) (Nat.le_refl g) (.int .i64 0) (.int .i64 0));have OE:=hid (show OwnI ((wr.setCell ⟨g,0,none⟩ (.int .i64 0)).setCell ⟨g,1,none⟩ (.int .i64 0)) g A7 k c7 (ts.map itm) from
       ⟨qBZ (qAD (qAD HO.out (p:=⟨g,0,none⟩) (Nat.lt_succ_self g) _) (p:=⟨g,1,none⟩) (Nat.lt_succ_self g) _) (Nat.le_succ g),by omega,fun i hi=>by
        obtain ⟨t,ht,rfl⟩:=List.mem_map.1 hi;exact ri_itm (H.out.2.2 t ht)⟩)
      clear FE FB3
      go_wp2
      generalize hWE:(wr.setCell ⟨g,0,none⟩ (.int .i64 0)).setCell ⟨g,1,none⟩ (.int .i64 0)=WE at *;rw [HV.out];exact bodyPost_ret (v:=.tuple #[.slice A7 k c7,.agg #[(.int .i64 0),(.int .i64 0)]]) (by simp [results,Tryz.results46,go_sem,e0,e1]) rfl ⟨_,_,_,rfl,OE,BE⟩
end Go.Proofs.YtmeaiaecmmglnaaGreatDoor
