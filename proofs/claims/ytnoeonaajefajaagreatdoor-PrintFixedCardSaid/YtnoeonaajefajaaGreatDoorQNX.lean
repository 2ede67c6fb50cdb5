import Derived.Deep.LoopGhost
import Derived.Deep.CutBlock
import Derived.Test.YtnoeonaajefajaaGreatDoorQMG
import Derived.Test.YtnoeonaajefajaaGreatDoorQMI
import Derived.Test.YtnoeonaajefajaaGreatDoorQMH
import Derived.Test.YtnoeonaajefajaaGreatDoorQNX17
import Derived.Test.YtnoeonaajefajaaGreatDoorQNX17D
set_option linter.all false
set_option maxRecDepth 100000
set_option linter.unusedVariables false
namespace Go.Proofs.YtnoeonaajefajaaGreatDoor
open Go.RowKit
open Lib (hid)
theorem qKQ {s:ByteArray} (h:s.size=0):(bts s).isEmpty=true:=by rw [List.eq_nil_of_length_eq_zero (l:=bts s) (by rw [qA1]; exact h)]; rfl
def Mid3 (w0:World) (g:Nat) (l bo:List Nat) (sc:Bool) (_:Value) (W:World):Prop:=∃ me pl,RX w0 W g (patN { sci:=sc,minExp:=me,plus:=pl })∧numZ l=numB bo sc me pl
set_option maxHeartbeats 16000000 in
theorem num3 (hN:N4):N3:=by
 intro l w W g sc bo X x HX HXB HN0 hbs hxs
 refine Rs.lay ?_
 iterate 316 intro _
 change Code.wp _ _ _ _ _
 conv=>arg 2; dsimp only [qBU,qC3,qC2,qC1,sndS,Tryz.f73,Option.getD]
 iterate 2 go_step
 go_cut [6] (Mid3 w g l (bts bo) sc)
 case first=>
  clear hN
  cases sc
  · rw [if_neg (by decide)] at HN0
    go_wp2_with fail
    go_meet
    exact ⟨0,false,HX.out,HN0.out⟩
  · rw [if_pos rfl] at HN0
    by_cases h0:0 < X.size
    · have g0:decide ((0:Int) < (X.size:Int))=true:=decide_eq_true (by omega)
      have hx1:x=X[0].toNat :: (bts X).drop 1:=by rw [← HXB.out]; exact qDZ h0
      by_cases hp:X[0].toNat=43
      · have gp:(((X[0].toNat:Nat):Int) == 43)=true:=by simp only [beq_iff_eq]; omega
        have HPL:=hid (show decide (x.head? = some 43)=true by rw [hx1,hp]; rfl);have HE:=hid (show bts (X.extract 1 X.size)=expT x by rw [qB7,HXB.out,expT,if_pos (of_decide_eq_true HPL.out)]);have hys:(X.extract 1 X.size).size≤100000000:=by rw [ByteArray.size_extract]; omega
        clear hx1 hp HXB;have d16:=HX.out.bp.v 16 rfl;have f16:=HX.out.bp.fr 16
        go_upto_region 7 with (first | go_skip | fail)
        have HX:=hid (HX.out.set 16 (.bool true) (patN { plus:=true }) rfl);clear d16 f16;generalize W.setCell ⟨g+1,16,none⟩ (.bool true)=W5 at *;generalize X.extract 1 X.size=Y at *;have HS:=hid (fun W=>qEK Y W (by omega));have HA8:=hid (show (stz ((bts Y).dropWhile z48)).toList.isEmpty=(bts Y).all z48 by
         rw [qB8,qAE fun b hb=>qAO Y b (List.dropWhile_subset _ hb),qFB])
        have HEE:=hid (show (expT x).isEmpty=Y.toList.isEmpty by rw [← HE.out,qB8]);have HEL:=hid (show (expT x).length=Y.size by rw [← HE.out,qA1]);generalize stz ((bts Y).dropWhile z48)=T8 at *;have hbr:=HX.out.br
        rcases hb1:Y.toList.isEmpty with _ | _
        · rcases hb2:(bts Y).all z48 with _ | _
          · have h8:T8.toList.isEmpty=false:=HA8.out.trans hb2
            have HN:=hid (show numZ l=({},4) by rw [HN0.out,expZ,← HE.out,hb2]; simp);clear hb2
            go_wp2_with (first
             | go_skip
             | (go_at_call 109; refine (HS.out _).mono ?_; rintro e w' ⟨rfl,rfl⟩)
             | (refine wpList_store_row rfl 24 _ _ rfl g patZ rfl rfl 24 patZ hbr (qA0 _ _ _ _ _ {} _ _ _) rfl (qA5 {}) ?_)
             | fail)
            exact bodyPost_ret (v:=.tuple #[.agg patZ,.int .i64 4]) (qA4 Tryz.results73 _ _ g 24 _ (0,0) _ rfl (setRow_heap _ _ _ _ _ _ hbr) Tryz.underlying24 rfl (qA0 _ _ _ _ _ {} _ _ _)) rfl ⟨by rw [HN.out]; rfl,HX.out.b.setRow (Nat.le_of_eq HX.out.hz) _⟩
          · have h8:T8.toList.isEmpty=true:=HA8.out.trans hb2
            by_cases h9:9 < Y.size
            · have g9:decide ((9:Int) < (Y.size:Int))=true:=decide_eq_true (by omega)
              have HN:=hid (show numZ l=({},8) by rw [HN0.out,expZ,HEE.out,HEL.out,← HE.out,hb1,hb2]; simp [h9]);clear hb2 h9
              go_wp2_with (first
               | go_skip
               | (go_at_call 109; refine (HS.out _).mono ?_; rintro e w' ⟨rfl,rfl⟩)
               | (refine wpList_store_row rfl 24 _ _ rfl g patZ rfl rfl 24 patZ hbr (qA0 _ _ _ _ _ {} _ _ _) rfl (qA5 {}) ?_)
               | fail)
              exact bodyPost_ret (v:=.tuple #[.agg patZ,.int .i64 8]) (qA4 Tryz.results73 _ _ g 24 _ (0,0) _ rfl (setRow_heap _ _ _ _ _ _ hbr) Tryz.underlying24 rfl (qA0 _ _ _ _ _ {} _ _ _)) rfl ⟨by rw [HN.out]; rfl,HX.out.b.setRow (Nat.le_of_eq HX.out.hz) _⟩
            · have g9:decide ((9:Int) < (Y.size:Int))=false:=decide_eq_false (by omega)
              have HN:=hid (show numZ l=numB (bts bo) true Y.size true by rw [HN0.out,expZ,HEE.out,HEL.out,← HE.out,hb1,hb2,HPL.out]; simp [h9]);have d14:=HX.out.bp.v 14 rfl;have f14:=HX.out.bp.fr 14;have d15:=HX.out.bp.v 15 rfl;have f15:=HX.out.bp.fr 15;clear hb2 h9
              go_wp2_with (first
               | go_skip
               | (go_at_call 109; refine (HS.out _).mono ?_; rintro e w' ⟨rfl,rfl⟩)
               | fail)
              go_meet
              exact ⟨Y.size,true,(HX.out.set 14 (.bool true) (patN { sci:=true,plus:=true }) rfl).set 15 (.int .i64 (Y.size:Int)) (patN { sci:=true,minExp:=Y.size,plus:=true }) rfl,HN.out⟩
        · have HN:=hid (show numZ l=({},4) by rw [HN0.out,expZ,HEE.out,hb1]; simp)
          go_wp2_with (first
           | go_skip
           | (go_at_call 109; refine (HS.out _).mono ?_; rintro e w' ⟨rfl,rfl⟩)
           | (refine wpList_store_row rfl 24 _ _ rfl g patZ rfl rfl 24 patZ hbr (qA0 _ _ _ _ _ {} _ _ _) rfl (qA5 {}) ?_)
           | fail)
          exact bodyPost_ret (v:=.tuple #[.agg patZ,.int .i64 4]) (qA4 Tryz.results73 _ _ g 24 _ (0,0) _ rfl (setRow_heap _ _ _ _ _ _ hbr) Tryz.underlying24 rfl (qA0 _ _ _ _ _ {} _ _ _)) rfl ⟨by rw [HN.out]; rfl,HX.out.b.setRow (Nat.le_of_eq HX.out.hz) _⟩
      · have gp:(((X[0].toNat:Nat):Int) == 43)=false:=by simp only [beq_eq_false_iff_ne,ne_eq]; omega
        have HPL:=hid (show decide (x.head? = some 43)=false by rw [hx1]; simpa using hp);have HE:=hid (show bts X=expT x by rw [HXB.out,expT,if_neg (of_decide_eq_false HPL.out)]; rfl);clear hx1 hp HXB
        go_upto_region 7 with (first | go_skip | fail)
        have HS:=hid (fun W=>qEK X W (by omega));have HA8:=hid (show (stz ((bts X).dropWhile z48)).toList.isEmpty=(bts X).all z48 by
         rw [qB8,qAE fun b hb=>qAO X b (List.dropWhile_subset _ hb),qFB])
        have HEE:=hid (show (expT x).isEmpty=X.toList.isEmpty by rw [← HE.out,qB8]);have HEL:=hid (show (expT x).length=X.size by rw [← HE.out,qA1]);generalize stz ((bts X).dropWhile z48)=T8 at *;have hbr:=HX.out.br
        rcases hb1:X.toList.isEmpty with _ | _
        · rcases hb2:(bts X).all z48 with _ | _
          · have h8:T8.toList.isEmpty=false:=HA8.out.trans hb2
            have HN:=hid (show numZ l=({},4) by rw [HN0.out,expZ,← HE.out,hb2]; simp);clear hb2
            go_wp2_with (first
             | go_skip
             | (go_at_call 109; refine (HS.out _).mono ?_; rintro e w' ⟨rfl,rfl⟩)
             | (refine wpList_store_row rfl 24 _ _ rfl g patZ rfl rfl 24 patZ hbr (qA0 _ _ _ _ _ {} _ _ _) rfl (qA5 {}) ?_)
             | fail)
            exact bodyPost_ret (v:=.tuple #[.agg patZ,.int .i64 4]) (qA4 Tryz.results73 _ _ g 24 _ (0,0) _ rfl (setRow_heap _ _ _ _ _ _ hbr) Tryz.underlying24 rfl (qA0 _ _ _ _ _ {} _ _ _)) rfl ⟨by rw [HN.out]; rfl,HX.out.b.setRow (Nat.le_of_eq HX.out.hz) _⟩
          · have h8:T8.toList.isEmpty=true:=HA8.out.trans hb2
            by_cases h9:9 < X.size
            · have g9:decide ((9:Int) < (X.size:Int))=true:=decide_eq_true (by omega)
              have HN:=hid (show numZ l=({},8) by rw [HN0.out,expZ,HEE.out,HEL.out,← HE.out,hb1,hb2]; simp [h9]);clear hb2 h9
              go_wp2_with (first
               | go_skip
               | (go_at_call 109; refine (HS.out _).mono ?_; rintro e w' ⟨rfl,rfl⟩)
               | (refine wpList_store_row rfl 24 _ _ rfl g patZ rfl rfl 24 patZ hbr (qA0 _ _ _ _ _ {} _ _ _) rfl (qA5 {}) ?_)
               | fail)
              exact bodyPost_ret (v:=.tuple #[.agg patZ,.int .i64 8]) (qA4 Tryz.results73 _ _ g 24 _ (0,0) _ rfl (setRow_heap _ _ _ _ _ _ hbr) Tryz.underlying24 rfl (qA0 _ _ _ _ _ {} _ _ _)) rfl ⟨by rw [HN.out]; rfl,HX.out.b.setRow (Nat.le_of_eq HX.out.hz) _⟩
            · have g9:decide ((9:Int) < (X.size:Int))=false:=decide_eq_false (by omega)
              have HN:=hid (show numZ l=numB (bts bo) true X.size false by rw [HN0.out,expZ,HEE.out,HEL.out,← HE.out,hb1,hb2,HPL.out]; simp [h9]);have d14:=HX.out.bp.v 14 rfl;have f14:=HX.out.bp.fr 14;have d15:=HX.out.bp.v 15 rfl;have f15:=HX.out.bp.fr 15;clear hb2 h9
              go_wp2_with (first
               | go_skip
               | (go_at_call 109; refine (HS.out _).mono ?_; rintro e w' ⟨rfl,rfl⟩)
               | fail)
              go_meet
              exact ⟨X.size,false,(HX.out.set 14 (.bool true) (patN { sci:=true,plus:=false }) rfl).set 15 (.int .i64 (X.size:Int)) (patN { sci:=true,minExp:=X.size,plus:=false }) rfl,HN.out⟩
        · have HN:=hid (show numZ l=({},4) by rw [HN0.out,expZ,HEE.out,hb1]; simp)
          go_wp2_with (first
           | go_skip
           | (go_at_call 109; refine (HS.out _).mono ?_; rintro e w' ⟨rfl,rfl⟩)
           | (refine wpList_store_row rfl 24 _ _ rfl g patZ rfl rfl 24 patZ hbr (qA0 _ _ _ _ _ {} _ _ _) rfl (qA5 {}) ?_)
           | fail)
          exact bodyPost_ret (v:=.tuple #[.agg patZ,.int .i64 4]) (qA4 Tryz.results73 _ _ g 24 _ (0,0) _ rfl (setRow_heap _ _ _ _ _ _ hbr) Tryz.underlying24 rfl (qA0 _ _ _ _ _ {} _ _ _)) rfl ⟨by rw [HN.out]; rfl,HX.out.b.setRow (Nat.le_of_eq HX.out.hz) _⟩
    · have g0:decide ((0:Int) < (X.size:Int))=false:=decide_eq_false (by omega)
      have h1:X.toList.isEmpty=true:=by rw [qB8,qKQ (by omega)]
      have HN:=hid (show numZ l=({},4) by
       have:x=[]:=by rw [← HXB.out]; exact List.eq_nil_of_length_eq_zero (by rw [qA1]; omega)
       rw [HN0.out,this]; rfl)
      have hbr:=HX.out.br;clear HN0 HXB
      go_wp2_with (first
       | go_skip
       | (refine wpList_store_row rfl 24 _ _ rfl g patZ rfl rfl 24 patZ hbr (qA0 _ _ _ _ _ {} _ _ _) rfl (qA5 {}) ?_)
       | fail)
      exact bodyPost_ret (v:=.tuple #[.agg patZ,.int .i64 4]) (qA4 Tryz.results73 _ _ g 24 _ (0,0) _ rfl (setRow_heap _ _ _ _ _ _ hbr) Tryz.underlying24 rfl (qA0 _ _ _ _ _ {} _ _ _)) rfl ⟨by rw [HN.out]; rfl,HX.out.b.setRow (Nat.le_of_eq HX.out.hz) _⟩
 case rest=>
 obtain ⟨me,pl,hx,hn⟩:=hcut
 go_step
 refine wp_mono (c:=qBZ) (hN l w wc g sc bo me pl (hid hx) (hid (by rw [hn,numB])) hbs _ ⟨rfl,rfl,rfl,rfl,rfl⟩) ?_
 intro e a w' h
 go_step
 exact h
end Go.Proofs.YtnoeonaajefajaaGreatDoor

set_option linter.all false
set_option maxRecDepth 100000
set_option linter.unusedVariables false
namespace Go.Proofs.YtnoeonaajefajaaGreatDoor
open Go.RowKit
open Lib (hid)
def Mid11 (w0:World) (g:Nat) (q:NF) (wh:ByteArray) (v tv nv iv:Value) (W:World):Prop:=
 ∃ (A:Option Addr) (m c:Nat) (t:ByteArray),v=.slice A m c∧tv=.string t∧bts t=pln (bts wh)∧t.size≤wh.size∧(spl (bts wh) 0).length=m∧OwnN W (g+2) v (spl (bts wh) 0)∧RX w0 W g (patN q)
set_option maxHeartbeats 16000000 in
theorem num11 (hN:N12):N11:=by
 intro l w W g sc point wh fr me pl HX HN0 hpf hws hfs
 refine Rs.lay ?_
 iterate 312 intro _
 change Code.wp _ _ _ _ _
 conv=>arg 2; dsimp only [qCI,qC8,qD2,qCP,qCK,qCF,qC4,qBZ,qBU,qC3,qC2,qC1,sndS,Tryz.f73,Option.getD]
 iterate 2 go_step
 go_cut [13,14,15,16] (Mid11 w g { sci:=sc,minExp:=me,plus:=pl } wh)
 case first=>
  clear hN;have hbr:=HX.out.br;have HW0:=hid (Below.refl (g+2) W)
  go_wp2_with fail
  go_loopw [13,14,15,16] (fun v tv nv iv wr=>∃ (i n:Nat) (t:ByteArray) (xs:List Nat),i≤wh.size+1∧iv=.int .i64 (i:Int)∧nv=.int .i64 (n:Int)∧n≤i∧tv=.string t∧bts t=pln ((bts wh).take i)∧t.size≤i∧t.size≤wh.size∧xs.length≤i∧spl (bts wh) 0=xs++splR (bts wh) i n∧(i=wh.size+1→n=0)∧OwnN wr (g+2) v xs∧Below (g+2) W wr) (fun _ _ _ iv _=>wh.size+1 - (intOf iv).toNat)
  case atStart=>exact ⟨0,0,⟨#[]⟩,[],Nat.zero_le _,rfl,rfl,Nat.le_refl _,rfl,rfl,Nat.le_refl _,Nat.zero_le _,Nat.le_refl _,by rw [splR_zero,List.nil_append],fun h=>by omega,ownN_nil _ _,HW0.out⟩
  case round=>
   obtain ⟨i,n,t,xs,hi,rfl,rfl,hni,rfl,ht0,hti,htw,hxl,hsp0,hin,ho0,hb0⟩:=hrel;have HT:=hid ht0;have HSP:=hid hsp0;have HO:=hid ho0;have HB:=hid hb0;have HIN:=hid hin;have hgs:g+2≤wr.heap.size:=Nat.le_trans HX.out.bp.lt hb0.size;clear ht0 hsp0 ho0 hb0 hin
   by_cases hle:i≤wh.size
   · have g1:decide ((i:Int)≤(wh.size:Int))=true:=decide_eq_true (by omega)
     by_cases hlt:i < wh.size
     · have g2:decide ((i:Int) < (wh.size:Int))=true:=decide_eq_true (by omega)
       have HPL:=hid (pln_snoc hlt)
       by_cases hc:wh[i].toNat=44
       · have g3:(((wh[i].toNat:Nat):Int) != 44)=false:=by simp only [bne_eq_false_iff_eq]; omega
         have HS:=hid (splR_comma (n:=n) hlt hc);have HP2:=hid (show bts t=pln ((bts wh).take (i+1)) by rw [HPL.out,if_pos hc,List.append_nil,HT.out]);clear hc HPL
         go_wp2_with (first | go_skip | (at_builtin; go_must (refine qFD rfl (.tmp 136) (.tmp 138) _ rfl Tryz.underlying84 (g+2) u13 xs rfl HO.out _ rfl n rfl (by omega) HB.out hgs ?_)) | fail)
         intro v' w' ho1 hb1
         go_wp2_with (first | go_skip | fail)
         go_roundw
         case rel=>exact ⟨i+1,0,t,xs++[n],by omega,by go_num,rfl,Nat.zero_le _,rfl,HP2.out,by omega,htw,by rw [List.length_append,List.length_singleton]; omega,by rw [HSP.out,HS.out,List.append_assoc]; rfl,fun _=>rfl,ho1.out,hb1.out⟩
         case measure=>simp [intOf] <;> omega
       · have g3:(((wh[i].toNat:Nat):Int) != 44)=true:=by simp only [bne_iff_ne,ne_eq]; omega
         have HS:=hid (splR_more (n:=n) hlt hc);have hex1:(wh.extract i (i+1)).size=1:=by rw [ByteArray.size_extract]; omega
         have HP2:=hid (show bts (t++wh.extract i (i+1))=pln ((bts wh).take (i+1)) by rw [HPL.out,if_neg hc,qAP,ext1_bts hlt,HT.out]);clear hc HPL
         go_wp2_with (first | go_skip | fail)
         go_roundw
         case rel=>exact ⟨i+1,n+1,_,xs,by omega,by go_num,by go_num,by omega,rfl,HP2.out,by rw [ByteArray.size_append]; omega,by rw [ByteArray.size_append]; omega,by omega,by rw [HSP.out,HS.out],fun h=>by omega,HO.out,HB.out⟩
         case measure=>simp [intOf] <;> omega
     · obtain rfl:i=wh.size:=by omega
       have g2:decide ((wh.size:Int) < (wh.size:Int))=false:=decide_eq_false (by omega);have HS:=hid (splR_end wh n);have HP2:=hid (show bts t=pln ((bts wh).take (wh.size+1)) by rw [HT.out,List.take_of_length_le (by rw [qA1]; exact Nat.le_refl _),List.take_of_length_le (by rw [qA1]; omega)])
       go_wp2_with (first | go_skip | (at_builtin; go_must (refine qFD rfl (.tmp 136) (.tmp 138) _ rfl Tryz.underlying84 (g+2) u13 xs rfl HO.out _ rfl n rfl (by omega) HB.out hgs ?_)) | fail)
       intro v' w' ho1 hb1
       go_wp2_with (first | go_skip | fail)
       go_roundw
       case rel=>exact ⟨wh.size+1,0,t,xs++[n],by omega,by go_num,rfl,Nat.zero_le _,rfl,HP2.out,by omega,htw,by rw [List.length_append,List.length_singleton]; omega,by rw [HSP.out,HS.out,List.append_assoc]; rfl,fun _=>rfl,ho1.out,hb1.out⟩
       case measure=>simp [intOf] <;> omega
   · obtain rfl:i=wh.size+1:=by omega
     have g1:decide (((wh.size+1:Nat):Int)≤(wh.size:Int))=false:=decide_eq_false (by omega);have g1':decide ((wh.size:Int)+1≤(wh.size:Int))=false:=decide_eq_false (by omega);have HS:=hid (show spl (bts wh) 0=xs by rw [HSP.out,HIN.out rfl,splR_out,List.append_nil]);have HP2:=hid (show bts t=pln (bts wh) by rw [HT.out,List.take_of_length_le (by rw [qA1]; omega)]);obtain ⟨A,c,hA⟩:=HO.out.form;subst hA;clear HIN HSP HT
     go_wp2_with fail
     go_meet
     exact ⟨A,xs.length,c,t,rfl,rfl,HP2.out,htw,by rw [HS.out],by rw [HS.out]; exact HO.out,HX.out.keep HB.out⟩
 case rest=>
 obtain ⟨A,m,c,t,rfl,rfl,hbt,hts,hm,ho,hx⟩:=hcut
 have hm1:1≤m:=by rw [← hm]; exact qGY _ _
 have hmx:m≤1000000000:=by have:=qKG (bts wh) 0; rw [qA1] at this; omega
 go_step
 refine wp_mono (c:=qCQ) (hN l w wc g m c A sc point fr t me pl (spl (bts wh) 0) (hid hx) hm hm1 hmx (hid ho) (hid (by rw [HN0.out,hbt])) hpf (by omega) hfs _ ⟨rfl,rfl,rfl,rfl,rfl,rfl,rfl,rfl⟩) ?_
 intro e a w' h
 go_step
 exact h
set_option maxHeartbeats 16000000 in
theorem num10 (hN:N11):N10:=by
 intro l w W g sc point wh fr me pl HX HN0 hpf hws hfs
 refine Rs.lay ?_
 iterate 313 intro _
 change Code.wp _ _ _ _ _
 conv=>arg 2; dsimp only [qC8,qD2,qCP,qCK,qCF,qC4,qBZ,qBU,qC3,qC2,qC1,sndS,Tryz.f73,Option.getD]
 iterate 2 go_step
 go_cut [15] (VMid W (.int .i64 0))
 case first=>
  clear hN
  go_wp2_with fail
  go_meet
  exact ⟨rfl,rfl⟩
 case rest=>
 obtain ⟨rfl,rfl⟩:=hcut
 go_step
 refine wp_mono (c:=qCI) (hN l w wc g sc point wh fr me pl HX HN0 hpf hws hfs _ ⟨rfl,rfl,rfl,rfl,rfl,rfl,rfl,rfl,rfl,rfl⟩) ?_
 intro e a w' h
 go_step
 exact h
set_option maxHeartbeats 16000000 in
theorem num9 (hN:N10):N9:=by
 intro l w W g sc point wh fr me pl HX HN0 hpf hws hfs
 refine Rs.lay ?_
 iterate 314 intro _
 change Code.wp _ _ _ _ _
 conv=>arg 2; dsimp only [qD2,qCP,qCK,qCF,qC4,qBZ,qBU,qC3,qC2,qC1,sndS,Tryz.f73,Option.getD]
 iterate 2 go_step
 go_cut [14] (VMid W (.string ⟨#[]⟩))
 case first=>
  clear hN
  go_wp2_with fail
  go_meet
  exact ⟨rfl,rfl⟩
 case rest=>
 obtain ⟨rfl,rfl⟩:=hcut
 go_step
 refine wp_mono (c:=qC8) (hN l w wc g sc point wh fr me pl HX HN0 hpf hws hfs _ ⟨rfl,rfl,rfl,rfl,rfl,rfl,rfl,rfl,rfl⟩) ?_
 intro e a w' h
 go_step
 exact h
set_option maxHeartbeats 16000000 in
theorem num8 (hN:N9):N8:=by
 intro l w W g sc point wh fr me pl HX HN0 hpf hws hfs
 refine Rs.lay ?_
 iterate 315 intro _
 change Code.wp _ _ _ _ _
 conv=>arg 2; dsimp only [qCP,qCK,qCF,qC4,qBZ,qBU,qC3,qC2,qC1,sndS,Tryz.f73,Option.getD]
 iterate 2 go_step
 go_cut [13] (VMid W (.slice none 0 0))
 case first=>
  clear hN
  go_wp2_with fail
  go_meet
  exact ⟨rfl,rfl⟩
 case rest=>
 obtain ⟨rfl,rfl⟩:=hcut
 go_step
 refine wp_mono (c:=qD2) (hN l w wc g sc point wh fr me pl HX HN0 hpf hws hfs _ ⟨rfl,rfl,rfl,rfl,rfl,rfl,rfl,rfl⟩) ?_
 intro e a w' h
 go_step
 exact h
end Go.Proofs.YtnoeonaajefajaaGreatDoor

set_option linter.all false
set_option maxRecDepth 100000
set_option linter.unusedVariables false
namespace Go.Proofs.YtnoeonaajefajaaGreatDoor
open Go.RowKit
open Lib (hid)
theorem num17:N17:=by
 intro l w W g m c A sc point fr t al me pl sz HX hm HN0 HAL hpf hts hfs has
 refine Rs.lay ?_
 iterate 313 intro _
 change Code.wp _ _ _ _ _
 rcases hA:(bts al).any a64 with _ | _
 · exact num17f l w W g m c A sc point fr t al me pl sz HX hm HN0 HAL hpf hts hfs has hA _ ⟨rfl,rfl,rfl,rfl,rfl,rfl,rfl,rfl,rfl⟩
 · exact num17t l w W g m c A sc point fr t al me pl sz HX hm HN0 HAL hpf hts hfs has hA _ ⟨rfl,rfl,rfl,rfl,rfl,rfl,rfl,rfl,rfl⟩
theorem n3_all:N3:=num3 (num4 (num5 (num6 (num7 (num8 (num9 (num10 (num11 (num12 (num13 (num14 (num15 (num16 num17)))))))))))))
def Mid2 (W:World) (b:List Nat) (wv fv pv:Value) (W':World):Prop:=wv=.string (stz (upA 69 b))∧fv=.string (stz (dnA 69 b))∧pv=.bool (b.any (· == 69))∧∃ n,W'=W.drewN n
set_option maxHeartbeats 16000000 in
theorem refNum_c (s:ByteArray) (w:World) (hs:s.size≤100000000):Calls Tryz.prog 73 #[.string s] w fun e w'=>
 e=.returned (.tuple #[.agg (patN (numZ (bts s)).1),.int .i64 (((numZ (bts s)).2:Nat):Int)])∧Below w.heap.size w w':=by
 have HX:=hid (RX.new w)
 have hn1:BX ((w.alloc (.cells patZ 24)).alloc (.cells patZ 24)) (w.heap.size+1) patZ 24:=by
  have:=BX.new (w.alloc (.cells patZ 24)) patZ 24
  simpa using this
 go_enter Tryz.func73,Tryz.ntmps73
 go_upto_region 2 with (first
  | (refine wpList_store_row rfl 24 _ _ rfl (w.heap.size+1) patZ rfl rfl 24 patZ hn1 (qA0 _ _ _ _ _ {} _ _ _) rfl (qA5 {}) ?_)
  | fail)
 change Code.wp _ _ _ _ (((w.alloc (.cells patZ 24)).alloc (.cells patZ 24)).setRow (w.heap.size+1) patZ)
 generalize ((w.alloc (.cells patZ 24)).alloc (.cells patZ 24)).setRow (w.heap.size+1) patZ=W0 at *
 clear hn1
 dsimp only [Act.put]
 go_cut [5,6,7] (Mid2 W0 (bts s))
 case first=>
  have HC1:=hid (fun W=>refCut_c s 69 W (by omega));generalize hp:(bts s).any (· == 69)=point at *;generalize h1:stz (upA 69 (bts s))=S1 at *;generalize h2:stz (dnA 69 (bts s))=S2 at *;have HP:=hid hp;have HS1:=hid h1;have HS2:=hid h2;clear hp h1 h2
  go_wp2_with (first
   | go_skip
   | (go_at_call 108; refine (HC1.out _).mono ?_; rintro e w1 ⟨rfl,n1,rfl⟩)
   | fail)
  go_meet
  exact ⟨by rw [HS1.out],by rw [HS2.out],by rw [HP.out],_,rfl⟩
 case rest=>
 obtain ⟨rfl,rfl,rfl,n,rfl⟩:=hcut
 have hU:bts (stz (upA 69 (bts s)))=upA 69 (bts s):=qAE (qIG (qAO s))
 have hD:bts (stz (dnA 69 (bts s)))=dnA 69 (bts s):=qAE (dn_lt (qAO s))
 have l1:(stz (upA 69 (bts s))).size≤100000000:=by rw [qA9]; have:=qIH 69 (bts s); rw [qA1] at this; omega
 have l2:(stz (dnA 69 (bts s))).size≤100000000:=by rw [qA9]; have:=dn_len 69 (bts s); rw [qA1] at this; omega
 go_step
 refine wp_mono (c:=qBU) (n3_all (bts s) w _ w.heap.size _ _ _ (dnA 69 (bts s)) (hid (HX.out.drewN n)) (hid hD) (hid (by rw [hU]; rfl)) l1 l2 _ ⟨rfl,rfl,rfl,rfl,rfl,rfl⟩) ?_
 intro e a w' h
 go_step
 exact h
end Go.Proofs.YtnoeonaajefajaaGreatDoor
