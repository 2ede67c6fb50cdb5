import Derived.Deep.LoopGhost
import Derived.Deep.CutBlock
import Derived.Test.YtohfadegildnaaaQNX18
import Derived.Test.YtohfadegildnaaaQMG
set_option linter.all false
set_option maxRecDepth 100000
set_option linter.unusedVariables false
namespace Go.Proofs.Ytohfadegildnaaa
open Go.RowKit
open Lib (hid)
set_option maxHeartbeats 16000000 in
theorem num17f (l:List Nat) (w W:World) (g m c:Nat) (A:Option Addr) (sc point:Bool) (fr t al:ByteArray) (me:Nat) (pl:Bool) (sz:List Nat) (HX:Hid (RX w W g (patN { sci:=sc,minExp:=me,plus:=pl,prim:=qAJ sz,sec:=secZ sz }))) (hm:sz.length=m) (HN0:Hid (numZ l=numP (bts t) (bts fr) point sz sc me pl)) (HAL:Hid (bts al=bts t++bts fr)) (hpf:point=false→fr.size=0) (hts:t.size≤100000000) (hfs:fr.size≤100000000) (has:al.size≤200000000) (hA:(bts al).any a64=false):∀ (T:List Value),Rs 321 [(2,.pointer (some ⟨g,0,none⟩)),(4,.pointer (some ⟨g+1,0,none⟩)),(7,.bool sc),(11,.string fr),(12,.bool point),(13,.slice A m c),(14,.string t),(18,.string al)] T→(qDA).wp Try.prog (bodyPost Try.prog Try.f14 (fun e w'=>e=.returned (.tuple #[.agg (patN (numZ l).1),.int .i64 (((numZ l).2:Nat):Int)])∧Below w.heap.size w w')) ⟨T.toArray,[]⟩ W:=by
 refine Rs.lay ?_
 iterate 313 intro _
 change Code.wp _ _ _ _ _
 conv=>arg 2; dsimp only [qDA,qDZ,qD9,qCQ,qCA,qBX,qBM,qBC,qC4,qBW,qBN,qBJ,qB9,qB4,qB2,qB8,qB7,qB6,sndS,Try.f14,Option.getD]
 iterate 2 go_step
 go_cut [] (Mid17 w g l sc m t)
 case first=>
  have hbr:=HX.out.br;have HC1:Hid (∀ W,Calls Try.prog 31 #[.string al,.int .u8 64] W fun e w'=>e=.returned (.int .i64 (((bts al).countP a64:Nat):Int))∧W=w'):=hid (fun W=>by have:=qAV al 64 W (by omega); rwa [qC9 (by decide)] at this);have hca0:(bts al).countP a64=0:=List.countP_eq_zero.2 fun x hx=>by rw [List.any_eq_false.1 hA x hx |> Bool.eq_false_iff.2]; decide
  rw [hca0] at HC1;clear hca0;have HNS:Hid (numZ l=if !qBV h35 dg dg (bts t) || !qBV dg h35 h35 (bts fr) then ({},4) else if !(incZ (bts al)).isEmpty && (decide ((bts fr).countP dg < fr.size) || sc) then ({},6) else finN (sc && decide (1 < m)) { sci:=sc,minExp:=me,plus:=pl,prim:=qAJ sz,sec:=secZ sz,minInt:=(bts t).countP dg,maxInt:=if sc then t.size else 0,minFrac:=(bts fr).countP dg,maxFrac:=fr.size,inc:=incZ (bts al) }):=hid (by rw [HN0.out,numP,digN,← HAL.out,hA,if_neg (by decide),qA0,qA0,hm]);clear hA;have HC2:Hid (∀ W,Calls Try.prog 31 #[.string t,.int .u8 48] W fun e w'=>e=.returned (.int .i64 (((bts t).countP dg:Nat):Int))∧W=w'):=hid (fun W=>by have:=qAV t 48 W (by omega); rwa [qD8] at this);have HC3:Hid (∀ W,Calls Try.prog 31 #[.string fr,.int .u8 48] W fun e w'=>e=.returned (.int .i64 (((bts fr).countP dg:Nat):Int))∧W=w'):=hid (fun W=>by have:=qAV fr 48 W (by omega); rwa [qD8] at this);have HR1:Hid (∀ W,Calls Try.prog 32 #[.string t,.int .u8 35,.int .u8 48,.int .u8 48] W fun e w'=>e=.returned (.bool (qBV h35 dg dg (bts t)))∧Below W.heap.size W w'):=hid (fun W=>by have:=qFN t 35 48 48 W (by omega); rwa [qD8,qC9 (by decide)] at this);have HR2:Hid (∀ W,Calls Try.prog 32 #[.string fr,.int .u8 48,.int .u8 35,.int .u8 35] W fun e w'=>e=.returned (.bool (qBV dg h35 h35 (bts fr)))∧Below W.heap.size W w'):=hid (fun W=>by have:=qFN fr 48 35 35 W (by omega); rwa [qD8,qC9 (by decide)] at this);generalize (bts t).countP dg=ci at *;generalize (bts fr).countP dg=cf at *
  rcases hr1:qBV h35 dg dg (bts t) with _ | _
  · rw [hr1] at HR1
    have HN:=hid (show numZ l=({},4) by rw [HNS.out,hr1]; rfl);clear hr1
    go_wp2_with (first
     | go_skip
     | (go_at_call 31; with_reducible refine (HC1.out _).mono ?_; rintro e w0 ⟨rfl,rfl⟩)
     | (go_at_call 32; with_reducible refine (HR1.out _).mono ?_; rintro e w3 ⟨rfl,hb3⟩; have HX:=hid (HX.out.below hb3); have hbr:=HX.out.br; clear hb3)
     | (refine wpList_store_row rfl 26 _ _ rfl g patZ rfl rfl 26 patZ hbr (qA3 _ _ _ _ _ {} _ _ _) rfl (qA8 {}) ?_)
     | fail)
    exact bodyPost_ret (v:=.tuple #[.agg patZ,.int .i64 4]) (qA2 Try.results14 _ _ g 26 _ (0,0) _ rfl (setRow_heap _ _ _ _ _ _ hbr) Try.underlying26 rfl (qA3 _ _ _ _ _ {} _ _ _)) rfl ⟨by rw [HN.out]; rfl,HX.out.b.setRow (Nat.le_of_eq HX.out.hz) _⟩
  · rw [hr1] at HR1
    rcases hr2:qBV dg h35 h35 (bts fr) with _ | _
    · rw [hr2] at HR2
      have HN:=hid (show numZ l=({},4) by rw [HNS.out,hr1,hr2]; rfl);clear hr1 hr2
      go_wp2_with (first
       | go_skip
       | (go_at_call 31; with_reducible refine (HC1.out _).mono ?_; rintro e w0 ⟨rfl,rfl⟩)
       | (go_at_call 32; with_reducible refine (HR1.out _).mono ?_; rintro e w3 ⟨rfl,hb3⟩; have HX:=hid (HX.out.below hb3); have hbr:=HX.out.br; clear hb3)
       | (go_at_call 32; with_reducible refine (HR2.out _).mono ?_; rintro e w4 ⟨rfl,hb4⟩; have HX:=hid (HX.out.below hb4); have hbr:=HX.out.br; clear hb4)
       | (refine wpList_store_row rfl 26 _ _ rfl g patZ rfl rfl 26 patZ hbr (qA3 _ _ _ _ _ {} _ _ _) rfl (qA8 {}) ?_)
       | fail)
      exact bodyPost_ret (v:=.tuple #[.agg patZ,.int .i64 4]) (qA2 Try.results14 _ _ g 26 _ (0,0) _ rfl (setRow_heap _ _ _ _ _ _ hbr) Try.underlying26 rfl (qA3 _ _ _ _ _ {} _ _ _)) rfl ⟨by rw [HN.out]; rfl,HX.out.b.setRow (Nat.le_of_eq HX.out.hz) _⟩
    · rw [hr2] at HR2
      have HNT:Hid (numZ l=if !(incZ (bts al)).isEmpty && (decide (cf < fr.size) || sc) then ({},6) else finN (sc && decide (1 < m)) { sci:=sc,minExp:=me,plus:=pl,prim:=qAJ sz,sec:=secZ sz,minInt:=ci,maxInt:=if sc then t.size else 0,minFrac:=cf,maxFrac:=fr.size,inc:=incZ (bts al) }):=hid (by rw [HNS.out,hr1,hr2]; rfl);clear HNS HN0 HAL hr1 hr2
      go_upto_region 57 with (first
       | go_skip
       | (go_at_call 31; with_reducible refine (HC1.out _).mono ?_; rintro e w0 ⟨rfl,rfl⟩)
       | (go_at_call 32; with_reducible refine (HR1.out _).mono ?_; rintro e w3 ⟨rfl,hb3⟩; have HX:=hid (HX.out.below hb3); have hbr:=HX.out.br; clear hb3)
       | (go_at_call 32; with_reducible refine (HR2.out _).mono ?_; rintro e w4 ⟨rfl,hb4⟩; have HX:=hid (HX.out.below hb4); have hbr:=HX.out.br; clear hb4)
       | fail)
      clear HR1 HR2 HC1;have d5:=HX.out.bp.v 5 rfl;have f5:=HX.out.bp.fr 5;have d7:=HX.out.bp.v 7 rfl;have f7:=HX.out.bp.fr 7;have d8:=HX.out.bp.v 8 rfl;have f8:=HX.out.bp.fr 8
      go_upto_region 58 with (first
       | go_skip
       | (go_at_call 31; with_reducible refine (HC2.out _).mono ?_; rintro e w1 ⟨rfl,rfl⟩)
       | (go_at_call 31; with_reducible refine (HC3.out _).mono ?_; rintro e w2 ⟨rfl,rfl⟩)
       | (go_at_call 32; refine (HR.out _).mono ?_; rintro e w3 ⟨rfl,hb3⟩; have HX:=hid (HX.out.below hb3); have hbr:=HX.out.br; clear hb3)
       | fail)
      have HX:=hid (((HX.out.set 5 (.int .i64 ((ci:Nat):Int)) (patN { sci:=sc,minExp:=me,plus:=pl,prim:=qAJ sz,sec:=secZ sz,minInt:=ci }) rfl).set 7 (.int .i64 ((cf:Nat):Int)) (patN { sci:=sc,minExp:=me,plus:=pl,prim:=qAJ sz,sec:=secZ sz,minInt:=ci,minFrac:=cf }) rfl).set 8 (.int .i64 (fr.size:Int)) (patN { sci:=sc,minExp:=me,plus:=pl,prim:=qAJ sz,sec:=secZ sz,minInt:=ci,minFrac:=cf,maxFrac:=fr.size }) rfl);clear d5 f5 d7 f7 d8 f8 hbr HC2 HC3;generalize ((w4.setCell ⟨g+1,5,none⟩ (.int .i64 (ci:Int))).setCell ⟨g+1,7,none⟩ (.int .i64 (cf:Int))).setCell ⟨g+1,8,none⟩ (.int .i64 (fr.size:Int))=W9 at *
      go_wp2_with fail
      go_loopw [19,20] (fun dv iv wr=>∃ (i:Nat) (d:ByteArray),i≤al.size∧iv=.int .i64 (i:Int)∧dv=.string d∧bts d=((bts al).take i).filter (fun c=>!h35 c)∧d.size≤i∧wr=W9) (fun _ iv _=>al.size - (intOf iv).toNat)
      case atStart=>exact ⟨0,⟨#[]⟩,Nat.zero_le _,rfl,rfl,rfl,Nat.le_refl _,rfl⟩
      case round=>
       obtain ⟨i,d,hi,rfl,rfl,hd0,hds,rfl⟩:=hrel;have HD:=hid hd0;clear hd0
       by_cases hlt:i < al.size
       · have g1:decide ((i:Int) < (al.size:Int))=true:=decide_eq_true (by omega)
         have HTK:=hid (qAH hlt)
         by_cases h3:al[i].toNat=35
         · have g3:(((al[i].toNat:Nat):Int) != 35)=false:=by simp only [bne_eq_false_iff_eq]; omega
           have HST:=hid (show bts d=((bts al).take (i+1)).filter (fun c=>!h35 c) by rw [HTK.out,List.filter_append,HD.out,h3]; simp [h35]);clear h3
           go_wp2
           go_roundw
           case rel=>exact ⟨i+1,d,by omega,by go_num,rfl,HST.out,by omega,by first | trivial | rfl⟩
           case measure=>simp [intOf]; omega
         · have g3:(((al[i].toNat:Nat):Int) != 35)=true:=by simp only [bne_iff_ne,ne_eq]; omega
           have HST:=hid (show bts (d++al.extract i (i+1))=((bts al).take (i+1)).filter (fun c=>!h35 c) by
            rw [HTK.out,List.filter_append,qCH,HD.out,ext1_bts hlt]
            congr 1
            simp [h35,h3])
           have hex1:(al.extract i (i+1)).size=1:=by rw [ByteArray.size_extract]; omega
           clear h3
           go_wp2
           go_roundw
           case rel=>exact ⟨i+1,_,by omega,by go_num,rfl,HST.out,by rw [ByteArray.size_append]; omega,by first | trivial | rfl⟩
           case measure=>simp [intOf]; omega
       · obtain rfl:i=al.size:=by omega
         have g1:decide ((al.size:Int) < (al.size:Int))=false:=decide_eq_false (by omega);have HSI:Hid (∀ W,Calls Try.prog 30 #[.string d] W fun e w'=>e=.returned (.string (stz (incZ (bts al))))∧W=w'):=hid (fun W=>by
          have:=qD7 d W (by omega)
          rwa [HD.out,qB1] at this)
         have HTE:=hid (show (stz (incZ (bts al))).toList.isEmpty=(incZ (bts al)).isEmpty by
          rw [qBH,qAS (l:=incZ (bts al)) fun b hb=>qAF al b (List.mem_filter.1 ((List.dropWhile_sublist _).subset hb)).1])
         generalize incZ (bts al)=x at *;generalize hT:stz x=T at *;have HT:=hid hT;clear hT HD;have hbr:=HX.out.br;have c7:wr.cell? ⟨g+1,7,none⟩=some (.int .i64 (cf:Int)):=HX.out.bp.c 7;have c8:wr.cell? ⟨g+1,8,none⟩=some (.int .i64 (fr.size:Int)):=HX.out.bp.c 8;have d13:=HX.out.bp.v 13 rfl;have f13:=HX.out.bp.fr 13
         go_upto_region 65 with (first
          | go_skip
          | (go_at_call 30; refine (HSI.out _).mono ?_; rintro e w5 ⟨rfl,rfl⟩)
          | fail)
         have HX:=hid (HX.out.set 13 (.string T) (patN { sci:=sc,minExp:=me,plus:=pl,prim:=qAJ sz,sec:=secZ sz,minInt:=ci,minFrac:=cf,maxFrac:=fr.size,inc:=x }) (by rw [← HT.out]; rfl));clear d13 f13 c7 c8 hbr;generalize wr.setCell ⟨g+1,13,none⟩ (.string T)=W10 at *;have hbr:=HX.out.br;have c7:W10.cell? ⟨g+1,7,none⟩=some (.int .i64 (cf:Int)):=HX.out.bp.c 7;have c8:W10.cell? ⟨g+1,8,none⟩=some (.int .i64 (fr.size:Int)):=HX.out.bp.c 8;have c13:W10.cell? ⟨g+1,13,none⟩=some (.string T):=by rw [← HT.out]; exact HX.out.bp.c 13
         have d6:=HX.out.bp.v 6 rfl;have f6:=HX.out.bp.fr 6
         rcases hx:x.isEmpty with _ | _
         · have h8:T.toList.isEmpty=false:=HTE.out.trans hx
           by_cases hlf:cf < fr.size
           · have g5:decide (cf < fr.size)=true:=decide_eq_true hlf
             have HN:=hid (show numZ l=({},6) by rw [HNT.out,hx,decide_eq_true hlf]; rfl);clear hx
             go_wp2_with (first
              | go_skip
              | (refine wpList_store_row rfl 26 _ _ rfl g patZ rfl rfl 26 patZ hbr (qA3 _ _ _ _ _ {} _ _ _) rfl (qA8 {}) ?_)
              | fail)
             exact bodyPost_ret (v:=.tuple #[.agg patZ,.int .i64 6]) (qA2 Try.results14 _ _ g 26 _ (0,0) _ rfl (setRow_heap _ _ _ _ _ _ hbr) Try.underlying26 rfl (qA3 _ _ _ _ _ {} _ _ _)) rfl ⟨by rw [HN.out]; rfl,HX.out.b.setRow (Nat.le_of_eq HX.out.hz) _⟩
           · have g5:decide (cf < fr.size)=false:=decide_eq_false hlf
             cases sc
             · have HN:=hid (show numZ l=finN (false && decide (1 < m)) { sci:=false,minExp:=me,plus:=pl,prim:=qAJ sz,sec:=secZ sz,minInt:=ci,maxInt:=0,minFrac:=cf,maxFrac:=fr.size,inc:=x } by rw [HNT.out,hx,decide_eq_false hlf]; rfl)
               clear hx
               go_wp2_with (first
                | go_skip
                | fail)
               go_meet
               exact ⟨{ sci:=false,minExp:=me,plus:=pl,prim:=qAJ sz,sec:=secZ sz,minInt:=ci,minFrac:=cf,maxFrac:=fr.size,inc:=x },HX.out,HN.out,fun h=>absurd h (Nat.lt_irrefl 0),qAK _⟩
             · have HN:=hid (show numZ l=({},6) by rw [HNT.out,hx,decide_eq_false hlf]; rfl)
               clear hx
               go_wp2_with (first
                | go_skip
                | (refine wpList_store_row rfl 26 _ _ rfl g patZ rfl rfl 26 patZ hbr (qA3 _ _ _ _ _ {} _ _ _) rfl (qA8 {}) ?_)
                | fail)
               exact bodyPost_ret (v:=.tuple #[.agg patZ,.int .i64 6]) (qA2 Try.results14 _ _ g 26 _ (0,0) _ rfl (setRow_heap _ _ _ _ _ _ hbr) Try.underlying26 rfl (qA3 _ _ _ _ _ {} _ _ _)) rfl ⟨by rw [HN.out]; rfl,HX.out.b.setRow (Nat.le_of_eq HX.out.hz) _⟩
         · have h8:T.toList.isEmpty=true:=HTE.out.trans hx
           cases sc
           · have HN:=hid (show numZ l=finN (false && decide (1 < m)) { sci:=false,minExp:=me,plus:=pl,prim:=qAJ sz,sec:=secZ sz,minInt:=ci,maxInt:=0,minFrac:=cf,maxFrac:=fr.size,inc:=x } by rw [HNT.out,hx]; rfl)
             clear hx
             go_wp2_with (first
              | go_skip
              | fail)
             go_meet
             exact ⟨{ sci:=false,minExp:=me,plus:=pl,prim:=qAJ sz,sec:=secZ sz,minInt:=ci,minFrac:=cf,maxFrac:=fr.size,inc:=x },HX.out,HN.out,fun h=>absurd h (Nat.lt_irrefl 0),qAK _⟩
           · have HN:=hid (show numZ l=finN (true && (decide (1 < m) || (decide (0 < 0) && decide ((bts t).head? = some 35)))) { sci:=true,minExp:=me,plus:=pl,prim:=qAJ sz,sec:=secZ sz,minInt:=ci,maxInt:=t.size,minFrac:=cf,maxFrac:=fr.size,inc:=x } by rw [HNT.out,hx]; simp)
             clear hx
             go_wp2_with (first
              | go_skip
              | fail)
             go_meet
             exact ⟨{ sci:=true,minExp:=me,plus:=pl,prim:=qAJ sz,sec:=secZ sz,minInt:=ci,maxInt:=t.size,minFrac:=cf,maxFrac:=fr.size,inc:=x },HX.out.set 6 (.int .i64 (t.size:Int)) (patN { sci:=true,minExp:=me,plus:=pl,prim:=qAJ sz,sec:=secZ sz,minInt:=ci,maxInt:=t.size,minFrac:=cf,maxFrac:=fr.size,inc:=x }) rfl,HN.out,fun h=>absurd h (Nat.lt_irrefl 0),qAK _⟩
 case rest=>
 obtain ⟨q,hx,hn,ht,hi⟩:=hcut
 go_step
 refine wp_mono (c:=qGO) (num18 l w wc g m c A sc t q (hid hx) hi (hid hn) ht _ ⟨rfl,rfl,rfl,rfl,rfl,rfl⟩) ?_
 intro e a w' h
 go_step
 exact h
end Go.Proofs.Ytohfadegildnaaa
