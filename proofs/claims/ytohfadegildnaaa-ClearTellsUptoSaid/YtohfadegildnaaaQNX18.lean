import Derived.Test.YtohfadegildnaaaQMG
set_option linter.all false
set_option maxRecDepth 100000
set_option linter.unusedVariables false
namespace Go.Proofs.Ytohfadegildnaaa
open Go.RowKit
open Lib (hid)
set_option maxHeartbeats 8000000 in
theorem num18 (l:List Nat) (w W:World) (g m c:Nat) (A:Option Addr) (sc:Bool) (t:ByteArray) (q:NF) (HX:Hid (RX w W g (patN q))) (h7:(stz q.inc).size=q.inc.length) (HN0:Hid (numZ l=finN (sc && (decide (1 < m) || (decide (0 < q.minSig) && decide ((bts t).head? = some 35)))) q)) (hts:0 < q.minSig→0 < t.size):∀ (T:List Value),Rs 321 [(2,.pointer (some ⟨g,0,none⟩)),(4,.pointer (some ⟨g+1,0,none⟩)),(7,.bool sc),(13,.slice A m c),(14,.string t)] T→(qGO).wp Try.prog (bodyPost Try.prog Try.f14 (fun e w'=>e=.returned (.tuple #[.agg (patN (numZ l).1),.int .i64 (((numZ l).2:Nat):Int)])∧Below w.heap.size w w')) ⟨T.toArray,[]⟩ W:=by
 refine Rs.lay ?_
 iterate 316 intro _
 change Code.wp _ _ _ _ _
 conv=>arg 2; dsimp only [qGO,qDA,qDZ,qD9,qCQ,qCA,qBX,qBM,qBC,qC4,qBW,qBN,qBJ,qB9,qB4,qB2,qB8,qB7,qB6,sndS,Try.f14,Option.getD]
 have hbr:=HX.out.br
 have c9:W.cell? ⟨g+1,9,none⟩=some (.int .i64 (q.minSig:Int)):=HX.out.bp.c 9
 generalize hM:(sc && (decide (1 < m) || (decide (0 < q.minSig) && decide ((bts t).head? = some 35))))=M at *
 have HM:=hid hM
 clear hM
 go_upto_region 69 with fail
 go_cut [293] (VMid W (.bool M))
 case first=>
  cases sc
  · have HM2:=hid (show M=false from HM.out.symm)
    go_wp2_with (first | go_skip | fail)
    go_meet
    exact ⟨by rw [HM2.out],rfl⟩
  · by_cases h1:1 < m
    · have g1:decide ((1:Int) < (m:Int))=true:=decide_eq_true (by omega)
      have HM2:=hid (show M=true by rw [← HM.out,decide_eq_true h1]; rfl)
      go_wp2_with (first | go_skip | fail)
      go_meet
      exact ⟨by rw [HM2.out],rfl⟩
    · have g1:decide ((1:Int) < (m:Int))=false:=decide_eq_false (by omega)
      by_cases h2:0 < q.minSig
      · have g2:decide ((0:Int) < (q.minSig:Int))=true:=decide_eq_true (by omega)
        have h0:=hts h2;have HBT:=hid (qCP h0)
        by_cases h3:t[0].toNat=35
        · have g3:(((t[0].toNat:Nat):Int) == 35)=true:=by simp only [beq_iff_eq]; omega
          have HM2:=hid (show M=true by
           have e:=HBT.out;rw [List.drop_zero] at e;rw [← HM.out,decide_eq_true h2,decide_eq_true (p:=(bts t).head? = some 35) (by rw [e,h3]; rfl)]; simp)
          clear h3
          go_wp2_with (first | go_skip | fail)
          go_meet
          exact ⟨by rw [HM2.out],rfl⟩
        · have g3:(((t[0].toNat:Nat):Int) == 35)=false:=by simp only [beq_eq_false_iff_ne,ne_eq]; omega
          have HM2:=hid (show M=false by
           have e:=HBT.out;rw [List.drop_zero] at e;rw [← HM.out,decide_eq_false h1,decide_eq_false (p:=(bts t).head? = some 35) (by rw [e]; intro e2; exact h3 (Option.some.inj e2))]; simp)
          clear h3
          go_wp2_with (first | go_skip | fail)
          go_meet
          exact ⟨by rw [HM2.out],rfl⟩
      · have g2:decide ((0:Int) < (q.minSig:Int))=false:=decide_eq_false (by omega)
        have HM2:=hid (show M=false by rw [← HM.out,decide_eq_false h1,decide_eq_false h2]; simp)
        go_wp2_with (first | go_skip | fail)
        go_meet
        exact ⟨by rw [HM2.out],rfl⟩
 case rest=>
 obtain ⟨rfl,rfl⟩:=hcut
 clear HM hts
 cases M
 · have c5:wc.cell? ⟨g+1,5,none⟩=some (.int .i64 (q.minInt:Int)):=HX.out.bp.c 5
   have c6:wc.cell? ⟨g+1,6,none⟩=some (.int .i64 (q.maxInt:Int)):=HX.out.bp.c 6;have c8:wc.cell? ⟨g+1,8,none⟩=some (.int .i64 (q.maxFrac:Int)):=HX.out.bp.c 8;have c10:wc.cell? ⟨g+1,10,none⟩=some (.int .i64 (q.maxSig:Int)):=HX.out.bp.c 10;have c11:wc.cell? ⟨g+1,11,none⟩=some (.int .i64 (q.prim:Int)):=HX.out.bp.c 11;have c12:wc.cell? ⟨g+1,12,none⟩=some (.int .i64 (q.sec:Int)):=HX.out.bp.c 12;have c13:wc.cell? ⟨g+1,13,none⟩=some (.string (stz q.inc)):=HX.out.bp.c 13;have HV:=hid (fun k (h:k < 7)=>vl_at wc q 3 h);have HXV:=hid (HX.out.below (qB3 wc (.cells #[.int .i64 (q.minInt:Int),.int .i64 (q.maxInt:Int),.int .i64 (q.maxFrac:Int),.int .i64 (q.maxSig:Int),.int .i64 (q.prim:Int),.int .i64 (q.sec:Int),.int .i64 (q.inc.length:Int)] 3)))
   go_wp2
   generalize wc.alloc (.cells #[.int .i64 (q.minInt:Int),.int .i64 (q.maxInt:Int),.int .i64 (q.maxFrac:Int),.int .i64 (q.maxSig:Int),.int .i64 (q.prim:Int),.int .i64 (q.sec:Int),.int .i64 (q.inc.length:Int)] 3)=V at *;generalize wc.heap.size=b at *;clear c5 c6 c8 c9 c10 c11 c12 c13 hbr HX;have hbr:=HXV.out.br;have hbp:=HXV.out.bp;have HX:=HXV
   go_loopw [312] (fun iv wr=>∃ k:Nat,k≤7∧iv=.int .i64 (k:Int)∧wr=V∧∀ j,j < k→vl q j≤40) (fun iv _=>7 - (intOf iv).toNat)
   case atStart=>exact ⟨0,Nat.zero_le _,rfl,rfl,fun j hj=>absurd hj (Nat.not_lt_zero _)⟩
   case round=>
    obtain ⟨k,hk,rfl,rfl,hall0⟩:=hrel;have HA:=hid hall0;clear hall0
    by_cases hk7:k < 7
    · have hc:=HV.out k hk7
      have HB1:=hid (fun (h:40 < vl q k)=>vl_one hk7 h);have HA2:=hid (fun (h:vl q k≤40) j (hj:j < k+1)=>show vl q j≤40 from (Nat.lt_or_ge j k).elim (HA.out j) (fun h2=>by rw [show j=k by omega]; exact h));generalize vl q k=x at *
      by_cases hx:40 < x
      · have HN:=hid (show numZ l=({},8) by rw [HN0.out,finN,if_neg (by decide),if_pos (HB1.out hx)])
        go_wp2_with (first | go_skip | (refine wpList_store_row rfl 26 _ _ rfl g patZ rfl rfl 26 patZ hbr (qA3 _ _ _ _ _ {} _ _ _) rfl (qA8 {}) ?_) | fail)
        exact bodyPost_ret (v:=.tuple #[.agg patZ,.int .i64 8]) (qA2 Try.results14 _ _ g 26 _ (0,0) _ rfl (setRow_heap _ _ _ _ _ _ hbr) Try.underlying26 rfl (qA3 _ _ _ _ _ {} _ _ _)) rfl ⟨by rw [HN.out]; rfl,HX.out.b.setRow (Nat.le_of_eq HX.out.hz) _⟩
      · have HA3:=hid (HA2.out (by omega))
        clear HA2 HB1
        go_wp2
        go_roundw
        case rel=>exact ⟨k+1,by omega,by go_num,by first | trivial | rfl,HA3.out⟩
        case measure=>simp [intOf]; omega
    · have HBN:=hid (vl_all (fun j hj=>HA.out j (by omega)))
      have HN:=hid (show numZ l=(q,0) by rw [HN0.out,finN,if_neg (by decide),if_neg (by rw [HBN.out]; decide)]);have hsz:(Try.prog.info? 26).map (·.size)=some (patN q).size:=qA3 ..;have hcs:=qA8 q;have hzs:patZ.size=(patN q).size:=rfl;generalize hPV:patN q=PV at *;have HPV:=hid hPV;clear hPV
      go_wp2_with (first
       | go_skip
       | (refine wpList_load_row rfl 26 _ rfl (g+1) rfl 26 PV (0,0) _ hbp Try.underlying26 rfl hsz ?_)
       | (refine wpList_store_row rfl 26 _ _ rfl g PV rfl rfl 26 patZ hbr hsz hzs hcs ?_)
       | fail)
      exact bodyPost_ret (v:=.tuple #[.agg PV,.int .i64 0]) (qA2 Try.results14 _ _ g 26 _ (0,0) _ rfl (setRow_heap _ _ _ _ _ _ hbr) Try.underlying26 rfl hsz) rfl ⟨by rw [HN.out,← HPV.out]; rfl,HX.out.b.setRow (Nat.le_of_eq HX.out.hz) _⟩
 · have HN:=hid (show numZ l=({},6) from HN0.out)
   go_wp2_with (first | go_skip | (refine wpList_store_row rfl 26 _ _ rfl g patZ rfl rfl 26 patZ hbr (qA3 _ _ _ _ _ {} _ _ _) rfl (qA8 {}) ?_) | fail)
   exact bodyPost_ret (v:=.tuple #[.agg patZ,.int .i64 6]) (qA2 Try.results14 _ _ g 26 _ (0,0) _ rfl (setRow_heap _ _ _ _ _ _ hbr) Try.underlying26 rfl (qA3 _ _ _ _ _ {} _ _ _)) rfl ⟨by rw [HN.out]; rfl,HX.out.b.setRow (Nat.le_of_eq HX.out.hz) _⟩
end Go.Proofs.Ytohfadegildnaaa
