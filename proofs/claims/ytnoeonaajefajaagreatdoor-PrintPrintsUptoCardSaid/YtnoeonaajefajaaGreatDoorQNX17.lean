import Derived.Deep.LoopGhost
import Derived.Deep.CutBlock
import Derived.Test.YtnoeonaajefajaaGreatDoorQMG
set_option linter.all false
set_option maxRecDepth 100000
set_option linter.unusedVariables false
namespace Go.Proofs.YtnoeonaajefajaaGreatDoor
open Go.RowKit
open Lib (hid)
set_option maxHeartbeats 8000000 in
theorem num18 (l:List Nat) (w W:World) (g m c:Nat) (A:Option Addr) (sc:Bool) (t:ByteArray) (q:NF) (HX:Hid (RX w W g (patN q))) (h7:(stz q.inc).size=q.inc.length) (HN0:Hid (numZ l=finN (sc && (decide (1 < m) || (decide (0 < q.minSig) && decide ((bts t).head? = some 35)))) q)) (hts:0 < q.minSig→0 < t.size):∀ (T:List Value),Rs 321 [(2,.pointer (some ⟨g,0,none⟩)),(4,.pointer (some ⟨g+1,0,none⟩)),(7,.bool sc),(13,.slice A m c),(14,.string t)] T→(qKN).wp Tryz.prog (bodyPost Tryz.prog Tryz.f73 (fun e w'=>e=.returned (.tuple #[.agg (patN (numZ l).1),.int .i64 (((numZ l).2:Nat):Int)])∧Below w.heap.size w w')) ⟨T.toArray,[]⟩ W:=by
 refine Rs.lay ?_
 iterate 316 intro _
 change Code.wp _ _ _ _ _
 conv=>arg 2; dsimp only [qKN,qEN,qFT,qEM,qE0,qDA,qCQ,qCI,qC8,qD2,qCP,qCK,qCF,qC4,qBZ,qBU,qC3,qC2,qC1,sndS,Tryz.f73,Option.getD]
 have hbr:=HX.out.br
 have c9:W.cell? ⟨g+1,9,none⟩=some (.int .i64 (q.minSig:Int)):=HX.out.bp.c 9
 generalize hM:(sc && (decide (1 < m) || (decide (0 < q.minSig) && decide ((bts t).head? = some 35))))=M at *
 have HM:=hid hM
 clear hM
 go_upto_region 69 with fail
 go_cut [293] (VMid W (.bool M))
 case first=>
  cases sc
  · have HM2:=hid (show M=false from HM.out.symm)
    go_wp2_with (first | go_skip | fail)
    go_meet
    exact ⟨by rw [HM2.out],rfl⟩
  · by_cases h1:1 < m
    · have g1:decide ((1:Int) < (m:Int))=true:=decide_eq_true (by omega)
      have HM2:=hid (show M=true by rw [← HM.out,decide_eq_true h1]; rfl)
      go_wp2_with (first | go_skip | fail)
      go_meet
      exact ⟨by rw [HM2.out],rfl⟩
    · have g1:decide ((1:Int) < (m:Int))=false:=decide_eq_false (by omega)
      by_cases h2:0 < q.minSig
      · have g2:decide ((0:Int) < (q.minSig:Int))=true:=decide_eq_true (by omega)
        have h0:=hts h2;have HBT:=hid (qDZ h0)
        by_cases h3:t[0].toNat=35
        · have g3:(((t[0].toNat:Nat):Int) == 35)=true:=by simp only [beq_iff_eq]; omega
          have HM2:=hid (show M=true by
           have e:=HBT.out;rw [List.drop_zero] at e;rw [← HM.out,decide_eq_true h2,decide_eq_true (p:=(bts t).head? = some 35) (by rw [e,h3]; rfl)]; simp)
          clear h3
          go_wp2_with (first | go_skip | fail)
          go_meet
          exact ⟨by rw [HM2.out],rfl⟩
        · have g3:(((t[0].toNat:Nat):Int) == 35)=false:=by simp only [beq_eq_false_iff_ne,ne_eq]; omega
          have HM2:=hid (show M=false by
           have e:=HBT.out;rw [List.drop_zero] at e;rw [← HM.out,decide_eq_false h1,decide_eq_false (p:=(bts t).head? = some 35) (by rw [e]; intro e2; exact h3 (Option.some.inj e2))]; simp)
          clear h3
          go_wp2_with (first | go_skip | fail)
          go_meet
          exact ⟨by rw [HM2.out],rfl⟩
      · have g2:decide ((0:Int) < (q.minSig:Int))=false:=decide_eq_false (by omega)
        have HM2:=hid (show M=false by rw [← HM.out,decide_eq_false h1,decide_eq_false h2]; simp)
        go_wp2_with (first | go_skip | fail)
        go_meet
        exact ⟨by rw [HM2.out],rfl⟩
 case rest=>
 obtain ⟨rfl,rfl⟩:=hcut
 clear HM hts
 cases M
 · have c5:wc.cell? ⟨g+1,5,none⟩=some (.int .i64 (q.minInt:Int)):=HX.out.bp.c 5
   have c6:wc.cell? ⟨g+1,6,none⟩=some (.int .i64 (q.maxInt:Int)):=HX.out.bp.c 6;have c8:wc.cell? ⟨g+1,8,none⟩=some (.int .i64 (q.maxFrac:Int)):=HX.out.bp.c 8;have c10:wc.cell? ⟨g+1,10,none⟩=some (.int .i64 (q.maxSig:Int)):=HX.out.bp.c 10;have c11:wc.cell? ⟨g+1,11,none⟩=some (.int .i64 (q.prim:Int)):=HX.out.bp.c 11;have c12:wc.cell? ⟨g+1,12,none⟩=some (.int .i64 (q.sec:Int)):=HX.out.bp.c 12;have c13:wc.cell? ⟨g+1,13,none⟩=some (.string (stz q.inc)):=HX.out.bp.c 13;have HV:=hid (fun k (h:k < 7)=>vl_at wc q 3 h);have HXV:=hid (HX.out.below (qA2 wc (.cells #[.int .i64 (q.minInt:Int),.int .i64 (q.maxInt:Int),.int .i64 (q.maxFrac:Int),.int .i64 (q.maxSig:Int),.int .i64 (q.prim:Int),.int .i64 (q.sec:Int),.int .i64 (q.inc.length:Int)] 3)))
   go_wp2
   generalize wc.alloc (.cells #[.int .i64 (q.minInt:Int),.int .i64 (q.maxInt:Int),.int .i64 (q.maxFrac:Int),.int .i64 (q.maxSig:Int),.int .i64 (q.prim:Int),.int .i64 (q.sec:Int),.int .i64 (q.inc.length:Int)] 3)=V at *;generalize wc.heap.size=b at *;clear c5 c6 c8 c9 c10 c11 c12 c13 hbr HX;have hbr:=HXV.out.br;have hbp:=HXV.out.bp;have HX:=HXV
   go_loopw [312] (fun iv wr=>∃ k:Nat,k≤7∧iv=.int .i64 (k:Int)∧wr=V∧∀ j,j < k→vl q j≤40) (fun iv _=>7 - (intOf iv).toNat)
   case atStart=>exact ⟨0,Nat.zero_le _,rfl,rfl,fun j hj=>absurd hj (Nat.not_lt_zero _)⟩
   case round=>
    obtain ⟨k,hk,rfl,rfl,hall0⟩:=hrel;have HA:=hid hall0;clear hall0
    by_cases hk7:k < 7
    · have hc:=HV.out k hk7
      have HB1:=hid (fun (h:40 < vl q k)=>vl_one hk7 h);have HA2:=hid (fun (h:vl q k≤40) j (hj:j < k+1)=>show vl q j≤40 from (Nat.lt_or_ge j k).elim (HA.out j) (fun h2=>by rw [show j=k by omega]; exact h));generalize vl q k=x at *
      by_cases hx:40 < x
      · have HN:=hid (show numZ l=({},8) by rw [HN0.out,finN,if_neg (by decide),if_pos (HB1.out hx)])
        go_wp2_with (first | go_skip | (refine wpList_store_row rfl 24 _ _ rfl g patZ rfl rfl 24 patZ hbr (qA0 _ _ _ _ _ {} _ _ _) rfl (qA5 {}) ?_) | fail)
        exact bodyPost_ret (v:=.tuple #[.agg patZ,.int .i64 8]) (qA4 Tryz.results73 _ _ g 24 _ (0,0) _ rfl (setRow_heap _ _ _ _ _ _ hbr) Tryz.underlying24 rfl (qA0 _ _ _ _ _ {} _ _ _)) rfl ⟨by rw [HN.out]; rfl,HX.out.b.setRow (Nat.le_of_eq HX.out.hz) _⟩
      · have HA3:=hid (HA2.out (by omega))
        clear HA2 HB1
        go_wp2
        go_roundw
        case rel=>exact ⟨k+1,by omega,by go_num,by first | trivial | rfl,HA3.out⟩
        case measure=>simp [intOf]; omega
    · have HBN:=hid (vl_all (fun j hj=>HA.out j (by omega)))
      have HN:=hid (show numZ l=(q,0) by rw [HN0.out,finN,if_neg (by decide),if_neg (by rw [HBN.out]; decide)]);have hsz:(Tryz.prog.info? 24).map (·.size)=some (patN q).size:=qA0 ..;have hcs:=qA5 q;have hzs:patZ.size=(patN q).size:=rfl;generalize hPV:patN q=PV at *;have HPV:=hid hPV;clear hPV
      go_wp2_with (first
       | go_skip
       | (refine wpList_load_row rfl 24 _ rfl (g+1) rfl 24 PV (0,0) _ hbp Tryz.underlying24 rfl hsz ?_)
       | (refine wpList_store_row rfl 24 _ _ rfl g PV rfl rfl 24 patZ hbr hsz hzs hcs ?_)
       | fail)
      exact bodyPost_ret (v:=.tuple #[.agg PV,.int .i64 0]) (qA4 Tryz.results73 _ _ g 24 _ (0,0) _ rfl (setRow_heap _ _ _ _ _ _ hbr) Tryz.underlying24 rfl hsz) rfl ⟨by rw [HN.out,← HPV.out]; rfl,HX.out.b.setRow (Nat.le_of_eq HX.out.hz) _⟩
 · have HN:=hid (show numZ l=({},6) from HN0.out)
   go_wp2_with (first | go_skip | (refine wpList_store_row rfl 24 _ _ rfl g patZ rfl rfl 24 patZ hbr (qA0 _ _ _ _ _ {} _ _ _) rfl (qA5 {}) ?_) | fail)
   exact bodyPost_ret (v:=.tuple #[.agg patZ,.int .i64 6]) (qA4 Tryz.results73 _ _ g 24 _ (0,0) _ rfl (setRow_heap _ _ _ _ _ _ hbr) Tryz.underlying24 rfl (qA0 _ _ _ _ _ {} _ _ _)) rfl ⟨by rw [HN.out]; rfl,HX.out.b.setRow (Nat.le_of_eq HX.out.hz) _⟩
end Go.Proofs.YtnoeonaajefajaaGreatDoor

set_option linter.all false
set_option maxRecDepth 100000
set_option linter.unusedVariables false
namespace Go.Proofs.YtnoeonaajefajaaGreatDoor
open Go.RowKit
open Lib (hid)
theorem dw35 {s:ByteArray} {k:Nat} (hk:k < s.size) (ha:∀ x ∈ (bts s).take k,h35 x=true) (hn:s[k].toNat≠35):((bts s).dropWhile h35).length=s.size - k:=by
 conv=>lhs; rw [← List.take_append_drop k (bts s)]
 rw [qH6 ha,qDZ hk,qDY,List.length_cons,List.length_drop,qA1]
 · omega
 · intro c hc
   rw [List.head?_cons] at hc
   cases hc
   rw [Bool.eq_false_iff];exact fun e=>hn (by simpa [h35] using e)
set_option maxHeartbeats 16000000 in
theorem num17t (l:List Nat) (w W:World) (g m c:Nat) (A:Option Addr) (sc point:Bool) (fr t al:ByteArray) (me:Nat) (pl:Bool) (sz:List Nat) (HX:Hid (RX w W g (patN { sci:=sc,minExp:=me,plus:=pl,prim:=primZ sz,sec:=secZ sz }))) (hm:sz.length=m) (HN0:Hid (numZ l=numP (bts t) (bts fr) point sz sc me pl)) (HAL:Hid (bts al=bts t++bts fr)) (hpf:point=false→fr.size=0) (hts:t.size≤100000000) (hfs:fr.size≤100000000) (has:al.size≤200000000) (hA:(bts al).any a64=true):∀ (T:List Value),Rs 321 [(2,.pointer (some ⟨g,0,none⟩)),(4,.pointer (some ⟨g+1,0,none⟩)),(7,.bool sc),(11,.string fr),(12,.bool point),(13,.slice A m c),(14,.string t),(18,.string al)] T→(qEN).wp Tryz.prog (bodyPost Tryz.prog Tryz.f73 (fun e w'=>e=.returned (.tuple #[.agg (patN (numZ l).1),.int .i64 (((numZ l).2:Nat):Int)])∧Below w.heap.size w w')) ⟨T.toArray,[]⟩ W:=by
 refine Rs.lay ?_
 iterate 313 intro _
 change Code.wp _ _ _ _ _
 conv=>arg 2; dsimp only [qEN,qFT,qEM,qE0,qDA,qCQ,qCI,qC8,qD2,qCP,qCK,qCF,qC4,qBZ,qBU,qC3,qC2,qC1,sndS,Tryz.f73,Option.getD]
 iterate 2 go_step
 go_cut [] (Mid17 w g l sc m t)
 case first=>
  have hbr:=HX.out.br;have HC1:Hid (∀ W,Calls Tryz.prog 110 #[.string al,.int .u8 64] W fun e w'=>e=.returned (.int .i64 (((bts al).countP a64:Nat):Int))∧W=w'):=hid (fun W=>by have:=qBC al 64 W (by omega); rwa [qD8 (by decide)] at this);have HNS:Hid (numZ l=if point || (bts t).any dg then ({},6) else if !qBB h35 a64 h35 (bts t) then ({},4) else finN (sc && (decide (1 < sz.length) || decide ((bts t).head? = some 35))) (sigN (bts t) sz sc me pl)):=hid (by rw [HN0.out,numP,← HAL.out,hA,if_pos rfl]);have g46:(0:Int) < (((bts al).countP a64:Nat):Int):=by
   have:=List.countP_pos_iff.2 (List.any_eq_true.1 hA);omega
  have HC2:Hid (∀ W,Calls Tryz.prog 110 #[.string t,.int .u8 48] W fun e w'=>e=.returned (.int .i64 (((bts t).countP dg:Nat):Int))∧W=w'):=hid (fun W=>by have:=qBC t 48 W (by omega); rwa [qEL] at this);have HC3:Hid (∀ W,Calls Tryz.prog 110 #[.string t,.int .u8 64] W fun e w'=>e=.returned (.int .i64 (((bts t).countP a64:Nat):Int))∧W=w'):=hid (fun W=>by have:=qBC t 64 W (by omega); rwa [qD8 (by decide)] at this);have HR:Hid (∀ W,Calls Tryz.prog 111 #[.string t,.int .u8 35,.int .u8 64,.int .u8 35] W fun e w'=>e=.returned (.bool (qBB h35 a64 h35 (bts t)))∧Below W.heap.size W w'):=hid (fun W=>by have:=qIC t 35 64 35 W (by omega); rwa [qD8 (by decide),qD8 (by decide)] at this);generalize (bts al).countP a64=ca at *;generalize hct:(bts t).countP a64=ct at *;have HCT:=hid hct;clear hct
  cases point
  · have hfz:=hpf rfl
    have HAT:=hid (show (bts t).any a64=true by
     have e:=HAL.out;rw [show bts fr=[] from List.eq_nil_of_length_eq_zero (by rw [qA1]; exact hfz),List.append_nil] at e;rw [← e]; exact hA)
    clear hA
    rcases hD:(bts t).any dg with _ | _
    · have hz:(bts t).countP dg=0:=List.countP_eq_zero.2 fun x hx=>by rw [List.any_eq_false.1 hD x hx |> Bool.eq_false_iff.2]; decide
      rw [hz] at HC2;clear hz;rw [hD,Bool.false_or,if_neg (by decide)] at HNS;generalize hrb:qBB h35 a64 h35 (bts t)=rb at *
      cases rb
      · have HN:=hid (show numZ l=({},4) from HNS.out)
        clear hD HAT
        go_wp2_with (first
         | go_skip
         | (go_at_call 110; with_reducible refine (HC1.out _).mono ?_; rintro e w0 ⟨rfl,rfl⟩)
         | (go_at_call 110; with_reducible refine (HC2.out _).mono ?_; rintro e w1 ⟨rfl,rfl⟩)
         | (go_at_call 110; with_reducible refine (HC3.out _).mono ?_; rintro e w2 ⟨rfl,rfl⟩)
         | (go_at_call 111; refine (HR.out _).mono ?_; rintro e w3 ⟨rfl,hb3⟩; have HX:=hid (HX.out.below hb3); have hbr:=HX.out.br; clear hb3)
         | (refine wpList_store_row rfl 24 _ _ rfl g patZ rfl rfl 24 patZ hbr (qA0 _ _ _ _ _ {} _ _ _) rfl (qA5 {}) ?_)
         | fail)
        exact bodyPost_ret (v:=.tuple #[.agg patZ,.int .i64 4]) (qA4 Tryz.results73 _ _ g 24 _ (0,0) _ rfl (setRow_heap _ _ _ _ _ _ hbr) Tryz.underlying24 rfl (qA0 _ _ _ _ _ {} _ _ _)) rfl ⟨by rw [HN.out]; rfl,HX.out.b.setRow (Nat.le_of_eq HX.out.hz) _⟩
      · have HNT:=hid (show numZ l=finN (sc && (decide (1 < sz.length) || decide ((bts t).head? = some 35))) (sigN (bts t) sz sc me pl) from HNS.out)
        clear HNS hD hrb
        go_upto_region 51 with (first
         | go_skip
         | (go_at_call 110; with_reducible refine (HC1.out _).mono ?_; rintro e w0 ⟨rfl,rfl⟩)
         | (go_at_call 110; with_reducible refine (HC2.out _).mono ?_; rintro e w1 ⟨rfl,rfl⟩)
         | (go_at_call 110; with_reducible refine (HC3.out _).mono ?_; rintro e w2 ⟨rfl,rfl⟩)
         | (go_at_call 111; refine (HR.out _).mono ?_; rintro e w3 ⟨rfl,hb3⟩; have HX:=hid (HX.out.below hb3); have hbr:=HX.out.br; clear hb3)
         | fail)
        have d9:=HX.out.bp.v 9 rfl;have f9:=HX.out.bp.fr 9
        go_upto_region 52 with (first
         | go_skip
         | (go_at_call 110; with_reducible refine (HC1.out _).mono ?_; rintro e w0 ⟨rfl,rfl⟩)
         | (go_at_call 110; with_reducible refine (HC2.out _).mono ?_; rintro e w1 ⟨rfl,rfl⟩)
         | (go_at_call 110; with_reducible refine (HC3.out _).mono ?_; rintro e w2 ⟨rfl,rfl⟩)
         | (go_at_call 111; refine (HR.out _).mono ?_; rintro e w3 ⟨rfl,hb3⟩; have HX:=hid (HX.out.below hb3); have hbr:=HX.out.br; clear hb3)
         | fail)
        have HX:=hid (HX.out.set 9 (.int .i64 ((ct:Nat):Int)) (patN { sci:=sc,minExp:=me,plus:=pl,prim:=primZ sz,sec:=secZ sz,minSig:=ct }) rfl);clear d9 f9 hbr;generalize w3.setCell ⟨g+1,9,none⟩ (.int .i64 (ct:Int))=W9 at *;have d10:=HX.out.bp.v 10 rfl;have f10:=HX.out.bp.fr 10
        go_upto_block 6 with fail
        have HX:=hid (HX.out.set 10 (.int .i64 (t.size:Int)) (patN { sci:=sc,minExp:=me,plus:=pl,prim:=primZ sz,sec:=secZ sz,minSig:=ct,maxSig:=t.size }) rfl);clear d10 f10;generalize hW10:W9.setCell ⟨g+1,10,none⟩ (.int .i64 (t.size:Int))=W10 at *;clear hW10 hbr;have HCP:=hid (show 0 < ct by rw [← HCT.out]; exact List.countP_pos_iff.2 (List.any_eq_true.1 HAT.out))
        go_wp2_with fail
        go_loopg [210,211,212,213,214,215,216,217,218,219,220,221] t.size (fun k _ _ _ _ _ _ _ _ _ _ _ _ wr=>RX w wr g (patN { sci:=sc,minExp:=me,plus:=pl,prim:=primZ sz,sec:=secZ sz,minSig:=ct,maxSig:=k })∧k≤t.size∧∀ x ∈ (bts t).take (t.size - k),h35 x=true)
        case atStart=>exact ⟨HX.out,Nat.le_refl _,fun x hx=>by rw [Nat.sub_self] at hx; cases hx⟩
        case round=>
         obtain ⟨hx0,hkt,hall0⟩:=hrel;have HX:=hid hx0;have HALL:=hid hall0;clear hx0 hall0;have hk0:0 < gk:=by
          refine Nat.pos_of_ne_zero fun e=>?_
          subst e;obtain ⟨x,hx,hx2⟩:=List.any_eq_true.1 HAT.out;have:=HALL.out x (by rw [Nat.sub_zero,qBT]; exact hx);simp only [h35,a64,beq_iff_eq] at this hx2;omega
         obtain ⟨n,rfl⟩:∃ n,gk=n+1:=⟨gk - 1,by omega⟩;obtain ⟨j,hj⟩:∃ j,t.size=j+(n+1):=⟨t.size - (n+1),by omega⟩;have hjt:j < t.size:=by omega
         have hji:(t.size:Int) - ((n:Int)+1)=(j:Int):=by omega
         have hni:((n:Int)+1) - 1=(n:Int):=by omega
         have hsj:t.size - (n+1)=j:=by omega
         rw [hsj] at HALL;have HJ:=hid hj;clear hj;have d10:wr.cell? ⟨g+1,10,none⟩=some (.int .i64 ((n:Int)+1)):=HX.out.bp.c 10;have f10:=HX.out.bp.fr 10
         by_cases h3:t[j].toNat=35
         · have g3:(((t[j].toNat:Nat):Int) == 35)=true:=by simp only [beq_iff_eq]; omega
           have HST:=hid (show ∀ x ∈ (bts t).take (t.size - n),h35 x=true from fun x hx=>by
            rw [show t.size - n=j+1 by have:=HJ.out; omega,qAQ hjt] at hx
            rcases List.mem_append.1 hx with hx | hx
            · exact HALL.out x hx
            · rw [List.mem_singleton] at hx; subst hx; simp [h35,h3])
           clear h3 hsj
           go_wp2_with (first | go_skip | fail)
           go_roundg n
           case measure=>omega
           case rel=>exact ⟨HX.out.set 10 (.int .i64 (n:Int)) (patN { sci:=sc,minExp:=me,plus:=pl,prim:=primZ sz,sec:=secZ sz,minSig:=ct,maxSig:=n }) rfl,by omega,HST.out⟩
         · have g3:(((t[j].toNat:Nat):Int) == 35)=false:=by simp only [beq_eq_false_iff_ne,ne_eq]; omega
           have HDW:=hid (dw35 hjt HALL.out h3);clear h3
           go_wp2_with (first | go_skip | fail)
           go_meet
           refine ⟨{ sci:=sc,minExp:=me,plus:=pl,prim:=primZ sz,sec:=secZ sz,minSig:=ct,maxSig:=n+1 },HX.out,?_,fun _=>by omega,rfl⟩;rw [HNT.out,sigN,HCT.out,HDW.out,show t.size - j=n+1 by have:=HJ.out; omega,hm,decide_eq_true HCP.out,Bool.true_and]
    · obtain ⟨cj,hcj⟩:∃ cj,(bts t).countP dg=cj+1:=⟨(bts t).countP dg - 1,by have:=List.countP_pos_iff.2 (List.any_eq_true.1 hD); omega⟩
      rw [hcj] at HC2;have g47:decide ((0:Int) < (((cj+1:Nat):Nat):Int))=true:=decide_eq_true (by omega);have g47':decide ((0:Int) < (cj:Int)+1)=true:=decide_eq_true (by omega);have HN:=hid (show numZ l=({},6) by rw [HNS.out,hD]; rfl);clear hD HAT hcj
      go_wp2_with (first
       | go_skip
       | (go_at_call 110; with_reducible refine (HC1.out _).mono ?_; rintro e w0 ⟨rfl,rfl⟩)
       | (go_at_call 110; with_reducible refine (HC2.out _).mono ?_; rintro e w1 ⟨rfl,rfl⟩)
       | (go_at_call 110; with_reducible refine (HC3.out _).mono ?_; rintro e w2 ⟨rfl,rfl⟩)
       | (go_at_call 111; refine (HR.out _).mono ?_; rintro e w3 ⟨rfl,hb3⟩; have HX:=hid (HX.out.below hb3); have hbr:=HX.out.br; clear hb3)
       | (refine wpList_store_row rfl 24 _ _ rfl g patZ rfl rfl 24 patZ hbr (qA0 _ _ _ _ _ {} _ _ _) rfl (qA5 {}) ?_)
       | fail)
      exact bodyPost_ret (v:=.tuple #[.agg patZ,.int .i64 6]) (qA4 Tryz.results73 _ _ g 24 _ (0,0) _ rfl (setRow_heap _ _ _ _ _ _ hbr) Tryz.underlying24 rfl (qA0 _ _ _ _ _ {} _ _ _)) rfl ⟨by rw [HN.out]; rfl,HX.out.b.setRow (Nat.le_of_eq HX.out.hz) _⟩
  · have HN:=hid (show numZ l=({},6) by rw [HNS.out]; rfl)
    clear hA
    go_wp2_with (first
     | go_skip
     | (go_at_call 110; with_reducible refine (HC1.out _).mono ?_; rintro e w0 ⟨rfl,rfl⟩)
     | (go_at_call 110; with_reducible refine (HC2.out _).mono ?_; rintro e w1 ⟨rfl,rfl⟩)
     | (go_at_call 110; with_reducible refine (HC3.out _).mono ?_; rintro e w2 ⟨rfl,rfl⟩)
     | (go_at_call 111; refine (HR.out _).mono ?_; rintro e w3 ⟨rfl,hb3⟩; have HX:=hid (HX.out.below hb3); have hbr:=HX.out.br; clear hb3)
     | (refine wpList_store_row rfl 24 _ _ rfl g patZ rfl rfl 24 patZ hbr (qA0 _ _ _ _ _ {} _ _ _) rfl (qA5 {}) ?_)
     | fail)
    exact bodyPost_ret (v:=.tuple #[.agg patZ,.int .i64 6]) (qA4 Tryz.results73 _ _ g 24 _ (0,0) _ rfl (setRow_heap _ _ _ _ _ _ hbr) Tryz.underlying24 rfl (qA0 _ _ _ _ _ {} _ _ _)) rfl ⟨by rw [HN.out]; rfl,HX.out.b.setRow (Nat.le_of_eq HX.out.hz) _⟩
 case rest=>
 obtain ⟨q,hx,hn,ht,hi⟩:=hcut
 go_step
 refine wp_mono (c:=qKN) (num18 l w wc g m c A sc t q (hid hx) hi (hid hn) ht _ ⟨rfl,rfl,rfl,rfl,rfl,rfl⟩) ?_
 intro e a w' h
 go_step
 exact h
end Go.Proofs.YtnoeonaajefajaaGreatDoor
