import Derived.Deep.LoopGhost
import Derived.Deep.CutBlock
import Derived.Test.YtohfadegildnaaaQMG
set_option linter.all false
set_option maxRecDepth 100000
set_option linter.unusedVariables false
namespace Go.Proofs.Ytohfadegildnaaa
open Go.RowKit
open Lib (hid)
theorem qGP {s:ByteArray} (h:s.size=0):(bts s).isEmpty=true:=by rw [List.eq_nil_of_length_eq_zero (l:=bts s) (by rw [qA0]; exact h)]; rfl
def Mid3 (w0:World) (g:Nat) (l bo:List Nat) (sc:Bool) (_:Value) (W:World):Prop:=∃ me pl,RX w0 W g (patN { sci:=sc,minExp:=me,plus:=pl })∧numZ l=numB bo sc me pl
set_option maxHeartbeats 16000000 in
theorem num3 (hN:N4):N3:=by
 intro l w W g sc bo X x HX HXB HN0 hbs hxs
 refine Rs.lay ?_
 iterate 316 intro _
 change Code.wp _ _ _ _ _
 conv=>arg 2; dsimp only [qB2,qB8,qB7,qB6,sndS,Try.f14,Option.getD]
 iterate 2 go_step
 go_cut [6] (Mid3 w g l (bts bo) sc)
 case first=>
  clear hN
  cases sc
  · rw [if_neg (by decide)] at HN0
    go_wp2_with fail
    go_meet
    exact ⟨0,false,HX.out,HN0.out⟩
  · rw [if_pos rfl] at HN0
    by_cases h0:0 < X.size
    · have g0:decide ((0:Int) < (X.size:Int))=true:=decide_eq_true (by omega)
      have hx1:x=X[0].toNat :: (bts X).drop 1:=by rw [← HXB.out]; exact qCP h0
      by_cases hp:X[0].toNat=43
      · have gp:(((X[0].toNat:Nat):Int) == 43)=true:=by simp only [beq_iff_eq]; omega
        have HPL:=hid (show decide (x.head? = some 43)=true by rw [hx1,hp]; rfl);have HE:=hid (show bts (X.extract 1 X.size)=expT x by rw [qDL,HXB.out,expT,if_pos (of_decide_eq_true HPL.out)]);have hys:(X.extract 1 X.size).size≤100000000:=by rw [ByteArray.size_extract]; omega
        clear hx1 hp HXB;have d16:=HX.out.bp.v 16 rfl;have f16:=HX.out.bp.fr 16
        go_upto_region 7 with (first | go_skip | fail)
        have HX:=hid (HX.out.set 16 (.bool true) (patN { plus:=true }) rfl);clear d16 f16;generalize W.setCell ⟨g+1,16,none⟩ (.bool true)=W5 at *;generalize X.extract 1 X.size=Y at *;have HS:=hid (fun W=>qD7 Y W (by omega));have HA8:=hid (show (stz ((bts Y).dropWhile z48)).toList.isEmpty=(bts Y).all z48 by
         rw [qBH,qAS fun b hb=>qAF Y b (List.dropWhile_subset _ hb),dw_all])
        have HEE:=hid (show (expT x).isEmpty=Y.toList.isEmpty by rw [← HE.out,qBH]);have HEL:=hid (show (expT x).length=Y.size by rw [← HE.out,qA0]);generalize stz ((bts Y).dropWhile z48)=T8 at *;have hbr:=HX.out.br
        rcases hb1:Y.toList.isEmpty with _ | _
        · rcases hb2:(bts Y).all z48 with _ | _
          · have h8:T8.toList.isEmpty=false:=HA8.out.trans hb2
            have HN:=hid (show numZ l=({},4) by rw [HN0.out,expZ,← HE.out,hb2]; simp);clear hb2
            go_wp2_with (first
             | go_skip
             | (go_at_call 30; refine (HS.out _).mono ?_; rintro e w' ⟨rfl,rfl⟩)
             | (refine wpList_store_row rfl 26 _ _ rfl g patZ rfl rfl 26 patZ hbr (qA3 _ _ _ _ _ {} _ _ _) rfl (qA8 {}) ?_)
             | fail)
            exact bodyPost_ret (v:=.tuple #[.agg patZ,.int .i64 4]) (qA2 Try.results14 _ _ g 26 _ (0,0) _ rfl (setRow_heap _ _ _ _ _ _ hbr) Try.underlying26 rfl (qA3 _ _ _ _ _ {} _ _ _)) rfl ⟨by rw [HN.out]; rfl,HX.out.b.setRow (Nat.le_of_eq HX.out.hz) _⟩
          · have h8:T8.toList.isEmpty=true:=HA8.out.trans hb2
            by_cases h9:9 < Y.size
            · have g9:decide ((9:Int) < (Y.size:Int))=true:=decide_eq_true (by omega)
              have HN:=hid (show numZ l=({},8) by rw [HN0.out,expZ,HEE.out,HEL.out,← HE.out,hb1,hb2]; simp [h9]);clear hb2 h9
              go_wp2_with (first
               | go_skip
               | (go_at_call 30; refine (HS.out _).mono ?_; rintro e w' ⟨rfl,rfl⟩)
               | (refine wpList_store_row rfl 26 _ _ rfl g patZ rfl rfl 26 patZ hbr (qA3 _ _ _ _ _ {} _ _ _) rfl (qA8 {}) ?_)
               | fail)
              exact bodyPost_ret (v:=.tuple #[.agg patZ,.int .i64 8]) (qA2 Try.results14 _ _ g 26 _ (0,0) _ rfl (setRow_heap _ _ _ _ _ _ hbr) Try.underlying26 rfl (qA3 _ _ _ _ _ {} _ _ _)) rfl ⟨by rw [HN.out]; rfl,HX.out.b.setRow (Nat.le_of_eq HX.out.hz) _⟩
            · have g9:decide ((9:Int) < (Y.size:Int))=false:=decide_eq_false (by omega)
              have HN:=hid (show numZ l=numB (bts bo) true Y.size true by rw [HN0.out,expZ,HEE.out,HEL.out,← HE.out,hb1,hb2,HPL.out]; simp [h9]);have d14:=HX.out.bp.v 14 rfl;have f14:=HX.out.bp.fr 14;have d15:=HX.out.bp.v 15 rfl;have f15:=HX.out.bp.fr 15;clear hb2 h9
              go_wp2_with (first
               | go_skip
               | (go_at_call 30; refine (HS.out _).mono ?_; rintro e w' ⟨rfl,rfl⟩)
               | fail)
              go_meet
              exact ⟨Y.size,true,(HX.out.set 14 (.bool true) (patN { sci:=true,plus:=true }) rfl).set 15 (.int .i64 (Y.size:Int)) (patN { sci:=true,minExp:=Y.size,plus:=true }) rfl,HN.out⟩
        · have HN:=hid (show numZ l=({},4) by rw [HN0.out,expZ,HEE.out,hb1]; simp)
          go_wp2_with (first
           | go_skip
           | (go_at_call 30; refine (HS.out _).mono ?_; rintro e w' ⟨rfl,rfl⟩)
           | (refine wpList_store_row rfl 26 _ _ rfl g patZ rfl rfl 26 patZ hbr (qA3 _ _ _ _ _ {} _ _ _) rfl (qA8 {}) ?_)
           | fail)
          exact bodyPost_ret (v:=.tuple #[.agg patZ,.int .i64 4]) (qA2 Try.results14 _ _ g 26 _ (0,0) _ rfl (setRow_heap _ _ _ _ _ _ hbr) Try.underlying26 rfl (qA3 _ _ _ _ _ {} _ _ _)) rfl ⟨by rw [HN.out]; rfl,HX.out.b.setRow (Nat.le_of_eq HX.out.hz) _⟩
      · have gp:(((X[0].toNat:Nat):Int) == 43)=false:=by simp only [beq_eq_false_iff_ne,ne_eq]; omega
        have HPL:=hid (show decide (x.head? = some 43)=false by rw [hx1]; simpa using hp);have HE:=hid (show bts X=expT x by rw [HXB.out,expT,if_neg (of_decide_eq_false HPL.out)]; rfl);clear hx1 hp HXB
        go_upto_region 7 with (first | go_skip | fail)
        have HS:=hid (fun W=>qD7 X W (by omega));have HA8:=hid (show (stz ((bts X).dropWhile z48)).toList.isEmpty=(bts X).all z48 by
         rw [qBH,qAS fun b hb=>qAF X b (List.dropWhile_subset _ hb),dw_all])
        have HEE:=hid (show (expT x).isEmpty=X.toList.isEmpty by rw [← HE.out,qBH]);have HEL:=hid (show (expT x).length=X.size by rw [← HE.out,qA0]);generalize stz ((bts X).dropWhile z48)=T8 at *;have hbr:=HX.out.br
        rcases hb1:X.toList.isEmpty with _ | _
        · rcases hb2:(bts X).all z48 with _ | _
          · have h8:T8.toList.isEmpty=false:=HA8.out.trans hb2
            have HN:=hid (show numZ l=({},4) by rw [HN0.out,expZ,← HE.out,hb2]; simp);clear hb2
            go_wp2_with (first
             | go_skip
             | (go_at_call 30; refine (HS.out _).mono ?_; rintro e w' ⟨rfl,rfl⟩)
             | (refine wpList_store_row rfl 26 _ _ rfl g patZ rfl rfl 26 patZ hbr (qA3 _ _ _ _ _ {} _ _ _) rfl (qA8 {}) ?_)
             | fail)
            exact bodyPost_ret (v:=.tuple #[.agg patZ,.int .i64 4]) (qA2 Try.results14 _ _ g 26 _ (0,0) _ rfl (setRow_heap _ _ _ _ _ _ hbr) Try.underlying26 rfl (qA3 _ _ _ _ _ {} _ _ _)) rfl ⟨by rw [HN.out]; rfl,HX.out.b.setRow (Nat.le_of_eq HX.out.hz) _⟩
          · have h8:T8.toList.isEmpty=true:=HA8.out.trans hb2
            by_cases h9:9 < X.size
            · have g9:decide ((9:Int) < (X.size:Int))=true:=decide_eq_true (by omega)
              have HN:=hid (show numZ l=({},8) by rw [HN0.out,expZ,HEE.out,HEL.out,← HE.out,hb1,hb2]; simp [h9]);clear hb2 h9
              go_wp2_with (first
               | go_skip
               | (go_at_call 30; refine (HS.out _).mono ?_; rintro e w' ⟨rfl,rfl⟩)
               | (refine wpList_store_row rfl 26 _ _ rfl g patZ rfl rfl 26 patZ hbr (qA3 _ _ _ _ _ {} _ _ _) rfl (qA8 {}) ?_)
               | fail)
              exact bodyPost_ret (v:=.tuple #[.agg patZ,.int .i64 8]) (qA2 Try.results14 _ _ g 26 _ (0,0) _ rfl (setRow_heap _ _ _ _ _ _ hbr) Try.underlying26 rfl (qA3 _ _ _ _ _ {} _ _ _)) rfl ⟨by rw [HN.out]; rfl,HX.out.b.setRow (Nat.le_of_eq HX.out.hz) _⟩
            · have g9:decide ((9:Int) < (X.size:Int))=false:=decide_eq_false (by omega)
              have HN:=hid (show numZ l=numB (bts bo) true X.size false by rw [HN0.out,expZ,HEE.out,HEL.out,← HE.out,hb1,hb2,HPL.out]; simp [h9]);have d14:=HX.out.bp.v 14 rfl;have f14:=HX.out.bp.fr 14;have d15:=HX.out.bp.v 15 rfl;have f15:=HX.out.bp.fr 15;clear hb2 h9
              go_wp2_with (first
               | go_skip
               | (go_at_call 30; refine (HS.out _).mono ?_; rintro e w' ⟨rfl,rfl⟩)
               | fail)
              go_meet
              exact ⟨X.size,false,(HX.out.set 14 (.bool true) (patN { sci:=true,plus:=false }) rfl).set 15 (.int .i64 (X.size:Int)) (patN { sci:=true,minExp:=X.size,plus:=false }) rfl,HN.out⟩
        · have HN:=hid (show numZ l=({},4) by rw [HN0.out,expZ,HEE.out,hb1]; simp)
          go_wp2_with (first
           | go_skip
           | (go_at_call 30; refine (HS.out _).mono ?_; rintro e w' ⟨rfl,rfl⟩)
           | (refine wpList_store_row rfl 26 _ _ rfl g patZ rfl rfl 26 patZ hbr (qA3 _ _ _ _ _ {} _ _ _) rfl (qA8 {}) ?_)
           | fail)
          exact bodyPost_ret (v:=.tuple #[.agg patZ,.int .i64 4]) (qA2 Try.results14 _ _ g 26 _ (0,0) _ rfl (setRow_heap _ _ _ _ _ _ hbr) Try.underlying26 rfl (qA3 _ _ _ _ _ {} _ _ _)) rfl ⟨by rw [HN.out]; rfl,HX.out.b.setRow (Nat.le_of_eq HX.out.hz) _⟩
    · have g0:decide ((0:Int) < (X.size:Int))=false:=decide_eq_false (by omega)
      have h1:X.toList.isEmpty=true:=by rw [qBH,qGP (by omega)]
      have HN:=hid (show numZ l=({},4) by
       have:x=[]:=by rw [← HXB.out]; exact List.eq_nil_of_length_eq_zero (by rw [qA0]; omega)
       rw [HN0.out,this]; rfl)
      have hbr:=HX.out.br;clear HN0 HXB
      go_wp2_with (first
       | go_skip
       | (refine wpList_store_row rfl 26 _ _ rfl g patZ rfl rfl 26 patZ hbr (qA3 _ _ _ _ _ {} _ _ _) rfl (qA8 {}) ?_)
       | fail)
      exact bodyPost_ret (v:=.tuple #[.agg patZ,.int .i64 4]) (qA2 Try.results14 _ _ g 26 _ (0,0) _ rfl (setRow_heap _ _ _ _ _ _ hbr) Try.underlying26 rfl (qA3 _ _ _ _ _ {} _ _ _)) rfl ⟨by rw [HN.out]; rfl,HX.out.b.setRow (Nat.le_of_eq HX.out.hz) _⟩
 case rest=>
 obtain ⟨me,pl,hx,hn⟩:=hcut
 go_step
 refine wp_mono (c:=qB4) (hN l w wc g sc bo me pl (hid hx) (hid (by rw [hn,numB])) hbs _ ⟨rfl,rfl,rfl,rfl,rfl⟩) ?_
 intro e a w' h
 go_step
 exact h
end Go.Proofs.Ytohfadegildnaaa
