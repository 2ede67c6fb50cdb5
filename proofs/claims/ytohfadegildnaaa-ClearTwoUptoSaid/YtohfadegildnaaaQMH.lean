import Derived.Deep.LoopGhost
import Derived.Deep.CutBlock
import Derived.Test.YtohfadegildnaaaQMG
set_option linter.all false
set_option maxRecDepth 100000
set_option linter.unusedVariables false
namespace Go.Proofs.Ytohfadegildnaaa
open Go.RowKit
open Lib (hid)
set_option maxHeartbeats 16000000 in
theorem num12 (hN:N13):N12:=by
 intro l w W g m c A sc point fr t me pl sz HX hm hm1 hmx HO HN0 hpf hts hfs
 refine Rs.lay ?_
 iterate 314 intro _
 change Code.wp _ _ _ _ _
 conv=>arg 2; dsimp only [qBX,qBM,qBC,qC4,qBW,qBN,qBJ,qB9,qB4,qB2,qB8,qB7,qB6,sndS,Try.f14,Option.getD]
 iterate 2 go_step
 go_cut [] (FMid W ((decide (1 < sz.length) && sz.any (· == 0))=false))
 case first=>
  clear hN;have hbr:=HX.out.br;obtain ⟨-,ad,rfl,hc0⟩:=HO.out.at_ (by omega);have HC:=hid hc0;clear hc0
  go_wp2_with fail
  go_loopw [17] (fun iv wr=>∃ k:Nat,k≤m∧iv=.int .i64 (k:Int)∧wr=W∧∀ j,j < k→¬ (1 < m∧sz.getD j 0=0)) (fun iv _=>m - (intOf iv).toNat)
  case atStart=>exact ⟨0,Nat.zero_le _,rfl,rfl,fun j hj=>absurd hj (Nat.not_lt_zero _)⟩
  case round=>
   obtain ⟨k,hk,rfl,rfl,hall0⟩:=hrel;have HA:=hid hall0;clear hall0
   by_cases hlt:k < m
   · have hc:=HC.out k hlt
     have g1:decide ((k:Int) < (m:Int))=true:=decide_eq_true (by omega);have HST:=hid (fun (h:¬ (1 < m∧sz.getD k 0=0)) j (hj:j < k+1)=>show ¬ (1 < m∧sz.getD j 0=0) from (Nat.lt_or_ge j k).elim (HA.out j) (fun h2=>by rw [show j=k by omega]; exact h));have HER:=hid (fun (h1:1 < m) (h2:sz.getD k 0=0)=>show numZ l=({},5) by
      rw [HN0.out,if_pos];rw [hm,decide_eq_true h1,Bool.true_and,List.any_eq_true];refine ⟨_,qEQ (k:=k) (by omega),?_⟩;rw [h2]; rfl)
     generalize sz.getD k 0=x at *
     by_cases h1:1 < m
     · have g2:decide ((1:Int) < (m:Int))=true:=decide_eq_true (by omega)
       by_cases hx:x=0
       · have g3:(((x:Nat):Int) == 0)=true:=by simp only [beq_iff_eq]; omega
         have HN:=hid (HER.out h1 hx);clear hx HST HER
         go_wp2_with (first
          | go_skip
          | (refine wpList_store_row rfl 26 _ _ rfl g patZ rfl rfl 26 patZ hbr (qA3 _ _ _ _ _ {} _ _ _) rfl (qA8 {}) ?_)
          | fail)
         exact bodyPost_ret (v:=.tuple #[.agg patZ,.int .i64 5]) (qA2 Try.results14 _ _ g 26 _ (0,0) _ rfl (setRow_heap _ _ _ _ _ _ hbr) Try.underlying26 rfl (qA3 _ _ _ _ _ {} _ _ _)) rfl ⟨by rw [HN.out]; rfl,HX.out.b.setRow (Nat.le_of_eq HX.out.hz) _⟩
       · have g3:(((x:Nat):Int) == 0)=false:=by simp only [beq_eq_false_iff_ne,ne_eq]; omega
         have HS:=hid (HST.out (fun h=>hx h.2));clear hx HST HER
         go_wp2_with (first | go_skip | fail)
         go_roundw
         case rel=>exact ⟨k+1,by omega,by go_num,by first | trivial | rfl,HS.out⟩
         case measure=>simp [intOf]; omega
     · have g2:decide ((1:Int) < (m:Int))=false:=decide_eq_false (by omega)
       have HS:=hid (HST.out (fun h=>h1 h.1));clear HST HER
       go_wp2_with (first | go_skip | fail)
       go_roundw
       case rel=>exact ⟨k+1,by omega,by go_num,by first | trivial | rfl,HS.out⟩
       case measure=>simp [intOf]; omega
   · obtain rfl:k=m:=by omega
     have g1:decide ((k:Int) < (k:Int))=false:=decide_eq_false (by omega);have HE:=hid (show (decide (1 < sz.length) && sz.any (· == 0))=false by
      rw [Bool.and_eq_false_iff]
      by_cases h1:1 < k
      · refine .inr (Bool.eq_false_iff.2 fun e=>?_)
        obtain ⟨x,hx,hx0⟩:=List.any_eq_true.1 e;obtain ⟨j,hj,rfl⟩:=List.mem_iff_getElem.1 hx;refine HA.out j (by omega) ⟨h1,?_⟩;rw [List.getD,List.getElem?_eq_getElem hj]
        simpa using hx0
      · exact .inl (decide_eq_false (by omega)))
     clear HA
     go_wp2_with fail
     go_meet
     exact ⟨rfl,HE.out⟩
 case rest=>
 obtain ⟨rfl,he⟩:=hcut
 go_step
 refine wp_mono (c:=qCA) (hN l w wc g m c A sc point fr t me pl sz HX hm hmx HO (hid (by rw [HN0.out,he,if_neg (by decide)])) hpf hts hfs _ ⟨rfl,rfl,rfl,rfl,rfl,rfl,rfl,rfl⟩) ?_
 intro e a w' h
 go_step
 exact h
def Mid13 (w0:World) (g:Nat) (v:Value) (sz:List Nat) (q:NF) (W:World):Prop:=RX w0 W g (patN q)∧OwnN W (g+2) v sz
set_option maxHeartbeats 16000000 in
theorem num13 (hN:N14):N13:=by
 intro l w W g m c A sc point fr t me pl sz HX hm hmx HO HN0 hpf hts hfs
 refine Rs.lay ?_
 iterate 314 intro _
 change Code.wp _ _ _ _ _
 conv=>arg 2; dsimp only [qCA,qBX,qBM,qBC,qC4,qBW,qBN,qBJ,qB9,qB4,qB2,qB8,qB7,qB6,sndS,Try.f14,Option.getD]
 iterate 2 go_step
 go_cut [] (Mid13 w g (.slice A m c) sz { sci:=sc,minExp:=me,plus:=pl,prim:=qAJ sz,sec:=qAJ sz })
 case first=>
  clear hN
  by_cases h2:1 < m
  · obtain ⟨k,rfl⟩:∃ k,m=k+1:=⟨m - 1,by omega⟩
    obtain ⟨-,ad,rfl,hc⟩:=HO.out.at_ (by omega);have HC:=hc k (by omega);clear hc;have HS:=hid (primZ_lo hm (by omega));have g2:decide ((1:Int) < ((k+1:Nat):Int))=true:=decide_eq_true (by omega);have g2':decide ((1:Int) < (k:Int)+1)=true:=decide_eq_true (by omega);have e2:(k:Int)+1 - 1=(k:Int):=by omega
    have d11:=HX.out.bp.v 11 rfl;have f11:=HX.out.bp.fr 11;have d12:=HX.out.bp.v 12 rfl;have f12:=HX.out.bp.fr 12;have hwk:IntKind.i64.wrap (k:Int)=(k:Int):=IntWalk.i64_in _ (by omega);have HC1:(W.setCell ⟨g+1,11,none⟩ (.int .i64 ((sz.getD k 0:Nat):Int))).cell? (ad.add k)=some (.int .i64 ((sz.getD k 0:Nat):Int)):=by
     obtain ⟨-,ad',e,h⟩:=(HO.out.set (b:=g+1) (j:=11) (u:=.int .i64 ((sz.getD k 0:Nat):Int)) (by omega)).at_ (by omega)
     cases e
     exact h k (by omega)
    have HC3:(W.setCell ⟨g+1,12,none⟩ (.int .i64 ((sz.getD k 0:Nat):Int))).cell? (ad.add k)=some (.int .i64 ((sz.getD k 0:Nat):Int)):=by
     obtain ⟨-,ad',e,h⟩:=(HO.out.set (b:=g+1) (j:=12) (u:=.int .i64 ((sz.getD k 0:Nat):Int)) (by omega)).at_ (by omega)
     cases e
     exact h k (by omega)
    generalize sz.getD k 0=x at *;clear hm HN0 h2
    go_upto_region 40 with fail
    go_region
    all_goals (go_wp2_with fail; go_meet; refine ⟨?_,(HO.out.set (show g+1 < g+2 by omega)).set (show g+1 < g+2 by omega)⟩; rw [HS.out]; exact ((HX.out.set 11 (.int .i64 (x:Int)) (patN { sci:=sc,minExp:=me,plus:=pl,prim:=x }) rfl).set 12 (.int .i64 (x:Int)) (patN { sci:=sc,minExp:=me,plus:=pl,prim:=x,sec:=x }) rfl).drewN 1)
  · have g2:decide ((1:Int) < (m:Int))=false:=decide_eq_false (by omega)
    have HS:=hid (show qAJ sz=0 by rw [qAJ,if_neg (by omega)])
    go_wp2_with fail
    go_meet
    refine ⟨?_,HO.out⟩;rw [HS.out];exact HX.out
 case rest=>
 obtain ⟨hx,ho⟩:=hcut
 have HX:=hid hx
 have HO:=hid ho
 go_step
 refine wp_mono (c:=qCQ) (hN l w wc g m c A sc point fr t me pl sz HX hm hmx HO HN0 hpf hts hfs _ ⟨rfl,rfl,rfl,rfl,rfl,rfl,rfl,rfl⟩) ?_
 intro e a w' h
 go_step
 exact h
set_option maxHeartbeats 16000000 in
theorem num16 (hN:N17):N16:=by
 intro l w W g m c A sc point fr t al me pl sz HX hm HN0 HAL hpf hts hfs has
 refine Rs.lay ?_
 iterate 313 intro _
 change Code.wp _ _ _ _ _
 conv=>arg 2; dsimp only [qDZ,qD9,qCQ,qCA,qBX,qBM,qBC,qC4,qBW,qBN,qBJ,qB9,qB4,qB2,qB8,qB7,qB6,sndS,Try.f14,Option.getD]
 iterate 2 go_step
 go_cut [] (FMid W ((bts al).isEmpty=false))
 case first=>
  clear hN;have hbr:=HX.out.br
  rcases hE:(bts al).isEmpty with _ | _
  · have h8:al.toList.isEmpty=false:=by rw [qBH]; exact hE
    have HE:=hid hE;clear hE
    go_wp2_with fail
    go_meet
    exact ⟨rfl,HE.out⟩
  · have h8:al.toList.isEmpty=true:=by rw [qBH]; exact hE
    have HN:=hid (show numZ l=({},4) by rw [HN0.out,hE]; rfl);clear hE
    go_wp2_with (first
     | go_skip
     | (refine wpList_store_row rfl 26 _ _ rfl g patZ rfl rfl 26 patZ hbr (qA3 _ _ _ _ _ {} _ _ _) rfl (qA8 {}) ?_)
     | fail)
    exact bodyPost_ret (v:=.tuple #[.agg patZ,.int .i64 4]) (qA2 Try.results14 _ _ g 26 _ (0,0) _ rfl (setRow_heap _ _ _ _ _ _ hbr) Try.underlying26 rfl (qA3 _ _ _ _ _ {} _ _ _)) rfl ⟨by rw [HN.out]; rfl,HX.out.b.setRow (Nat.le_of_eq HX.out.hz) _⟩
 case rest=>
 obtain ⟨rfl,he⟩:=hcut
 go_step
 refine wp_mono (c:=qDA) (hN l w wc g m c A sc point fr t al me pl sz HX hm (hid (by rw [HN0.out,he,if_neg (by decide)])) HAL hpf hts hfs has _ ⟨rfl,rfl,rfl,rfl,rfl,rfl,rfl,rfl,rfl⟩) ?_
 intro e a w' h
 go_step
 exact h
set_option maxHeartbeats 16000000 in
theorem num15 (hN:N16):N15:=by
 intro l w W g m c A sc point fr t me pl sz HX hm HN0 hpf hts hfs
 refine Rs.lay ?_
 iterate 314 intro _
 change Code.wp _ _ _ _ _
 conv=>arg 2; dsimp only [qD9,qCQ,qCA,qBX,qBM,qBC,qC4,qBW,qBN,qBJ,qB9,qB4,qB2,qB8,qB7,qB6,sndS,Try.f14,Option.getD]
 iterate 2 go_step
 go_cut [18] (VMid W (.string (t++fr)))
 case first=>
  clear hN
  go_wp2_with fail
  go_meet
  exact ⟨rfl,rfl⟩
 case rest=>
 obtain ⟨rfl,rfl⟩:=hcut
 go_step
 refine wp_mono (c:=qDZ) (hN l w wc g m c A sc point fr t (t++fr) me pl sz HX hm (hid (by rw [HN0.out,qCH])) (hid (qCH _ _)) hpf hts hfs (by rw [ByteArray.size_append]; omega) _ ⟨rfl,rfl,rfl,rfl,rfl,rfl,rfl,rfl,rfl⟩) ?_
 intro e a w' h
 go_step
 exact h
def Mid14 (w0:World) (g:Nat) (q:NF) (W:World):Prop:=RX w0 W g (patN q)
set_option maxHeartbeats 16000000 in
theorem num14 (hN:N15):N14:=by
 intro l w W g m c A sc point fr t me pl sz HX hm hmx HO HN0 hpf hts hfs
 refine Rs.lay ?_
 iterate 314 intro _
 change Code.wp _ _ _ _ _
 conv=>arg 2; dsimp only [qCQ,qCA,qBX,qBM,qBC,qC4,qBW,qBN,qBJ,qB9,qB4,qB2,qB8,qB7,qB6,sndS,Try.f14,Option.getD]
 iterate 2 go_step
 go_cut [] (Mid14 w g { sci:=sc,minExp:=me,plus:=pl,prim:=qAJ sz,sec:=secZ sz })
 case first=>
  clear hN
  by_cases h2:2 < m
  · obtain ⟨k,rfl⟩:∃ k,m=k+2:=⟨m - 2,by omega⟩
    obtain ⟨-,ad,rfl,hc⟩:=HO.out.at_ (by omega);have HC:=hc k (by omega);clear hc;have HS:=hid (secZ_lo hm (by omega));have g2:decide ((2:Int) < ((k+2:Nat):Int))=true:=decide_eq_true (by omega);have g2':decide ((2:Int) < (k:Int)+2)=true:=decide_eq_true (by omega);have e2:(k:Int)+2 - 2=(k:Int):=by omega
    have d12:=HX.out.bp.v 12 rfl;have f12:=HX.out.bp.fr 12;generalize sz.getD k 0=x at *;clear hm HN0 h2
    go_wp2_with fail
    go_meet
    show RX _ _ _ _
    rw [HS.out];exact HX.out.set 12 (.int .i64 (x:Int)) (patN { sci:=sc,minExp:=me,plus:=pl,prim:=qAJ sz,sec:=x }) rfl
  · have g2:decide ((2:Int) < (m:Int))=false:=decide_eq_false (by omega)
    have HS:=hid (show secZ sz=qAJ sz by rw [secZ,if_neg (by omega)])
    go_wp2_with fail
    go_meet
    show RX _ _ _ _
    rw [HS.out];exact HX.out
 case rest=>
 have HX:=hid hcut
 go_step
 refine wp_mono (c:=qD9) (hN l w wc g m c A sc point fr t me pl sz HX hm HN0 hpf hts hfs _ ⟨rfl,rfl,rfl,rfl,rfl,rfl,rfl,rfl⟩) ?_
 intro e a w' h
 go_step
 exact h
end Go.Proofs.Ytohfadegildnaaa
