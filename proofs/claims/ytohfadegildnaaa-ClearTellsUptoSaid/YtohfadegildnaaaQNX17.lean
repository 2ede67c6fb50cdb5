import Derived.Deep.LoopGhost
import Derived.Deep.CutBlock
import Derived.Test.YtohfadegildnaaaQNX18
import Derived.Test.YtohfadegildnaaaQMG
set_option linter.all false
set_option maxRecDepth 100000
set_option linter.unusedVariables false
namespace Go.Proofs.Ytohfadegildnaaa
open Go.RowKit
open Lib (hid)
theorem dw35 {s:ByteArray} {k:Nat} (hk:k < s.size) (ha:∀ x ∈ (bts s).take k,h35 x=true) (hn:s[k].toNat≠35):((bts s).dropWhile h35).length=s.size - k:=by
 conv=>lhs; rw [← List.take_append_drop k (bts s)]
 rw [dw_app ha,qCP hk,dw_head,List.length_cons,List.length_drop,qA0]
 · omega
 · intro c hc
   rw [List.head?_cons] at hc
   cases hc
   rw [Bool.eq_false_iff];exact fun e=>hn (by simpa [h35] using e)
set_option maxHeartbeats 16000000 in
theorem num17t (l:List Nat) (w W:World) (g m c:Nat) (A:Option Addr) (sc point:Bool) (fr t al:ByteArray) (me:Nat) (pl:Bool) (sz:List Nat) (HX:Hid (RX w W g (patN { sci:=sc,minExp:=me,plus:=pl,prim:=qAJ sz,sec:=secZ sz }))) (hm:sz.length=m) (HN0:Hid (numZ l=numP (bts t) (bts fr) point sz sc me pl)) (HAL:Hid (bts al=bts t++bts fr)) (hpf:point=false→fr.size=0) (hts:t.size≤100000000) (hfs:fr.size≤100000000) (has:al.size≤200000000) (hA:(bts al).any a64=true):∀ (T:List Value),Rs 321 [(2,.pointer (some ⟨g,0,none⟩)),(4,.pointer (some ⟨g+1,0,none⟩)),(7,.bool sc),(11,.string fr),(12,.bool point),(13,.slice A m c),(14,.string t),(18,.string al)] T→(qDA).wp Try.prog (bodyPost Try.prog Try.f14 (fun e w'=>e=.returned (.tuple #[.agg (patN (numZ l).1),.int .i64 (((numZ l).2:Nat):Int)])∧Below w.heap.size w w')) ⟨T.toArray,[]⟩ W:=by
 refine Rs.lay ?_
 iterate 313 intro _
 change Code.wp _ _ _ _ _
 conv=>arg 2; dsimp only [qDA,qDZ,qD9,qCQ,qCA,qBX,qBM,qBC,qC4,qBW,qBN,qBJ,qB9,qB4,qB2,qB8,qB7,qB6,sndS,Try.f14,Option.getD]
 iterate 2 go_step
 go_cut [] (Mid17 w g l sc m t)
 case first=>
  have hbr:=HX.out.br;have HC1:Hid (∀ W,Calls Try.prog 31 #[.string al,.int .u8 64] W fun e w'=>e=.returned (.int .i64 (((bts al).countP a64:Nat):Int))∧W=w'):=hid (fun W=>by have:=qAV al 64 W (by omega); rwa [qC9 (by decide)] at this);have HNS:Hid (numZ l=if point || (bts t).any dg then ({},6) else if !qBV h35 a64 h35 (bts t) then ({},4) else finN (sc && (decide (1 < sz.length) || decide ((bts t).head? = some 35))) (sigN (bts t) sz sc me pl)):=hid (by rw [HN0.out,numP,← HAL.out,hA,if_pos rfl]);have g46:(0:Int) < (((bts al).countP a64:Nat):Int):=by
   have:=List.countP_pos_iff.2 (List.any_eq_true.1 hA);omega
  have HC2:Hid (∀ W,Calls Try.prog 31 #[.string t,.int .u8 48] W fun e w'=>e=.returned (.int .i64 (((bts t).countP dg:Nat):Int))∧W=w'):=hid (fun W=>by have:=qAV t 48 W (by omega); rwa [qD8] at this);have HC3:Hid (∀ W,Calls Try.prog 31 #[.string t,.int .u8 64] W fun e w'=>e=.returned (.int .i64 (((bts t).countP a64:Nat):Int))∧W=w'):=hid (fun W=>by have:=qAV t 64 W (by omega); rwa [qC9 (by decide)] at this);have HR:Hid (∀ W,Calls Try.prog 32 #[.string t,.int .u8 35,.int .u8 64,.int .u8 35] W fun e w'=>e=.returned (.bool (qBV h35 a64 h35 (bts t)))∧Below W.heap.size W w'):=hid (fun W=>by have:=qFN t 35 64 35 W (by omega); rwa [qC9 (by decide),qC9 (by decide)] at this);generalize (bts al).countP a64=ca at *;generalize hct:(bts t).countP a64=ct at *;have HCT:=hid hct;clear hct
  cases point
  · have hfz:=hpf rfl
    have HAT:=hid (show (bts t).any a64=true by
     have e:=HAL.out;rw [show bts fr=[] from List.eq_nil_of_length_eq_zero (by rw [qA0]; exact hfz),List.append_nil] at e;rw [← e]; exact hA)
    clear hA
    rcases hD:(bts t).any dg with _ | _
    · have hz:(bts t).countP dg=0:=List.countP_eq_zero.2 fun x hx=>by rw [List.any_eq_false.1 hD x hx |> Bool.eq_false_iff.2]; decide
      rw [hz] at HC2;clear hz;rw [hD,Bool.false_or,if_neg (by decide)] at HNS;generalize hrb:qBV h35 a64 h35 (bts t)=rb at *
      cases rb
      · have HN:=hid (show numZ l=({},4) from HNS.out)
        clear hD HAT
        go_wp2_with (first
         | go_skip
         | (go_at_call 31; with_reducible refine (HC1.out _).mono ?_; rintro e w0 ⟨rfl,rfl⟩)
         | (go_at_call 31; with_reducible refine (HC2.out _).mono ?_; rintro e w1 ⟨rfl,rfl⟩)
         | (go_at_call 31; with_reducible refine (HC3.out _).mono ?_; rintro e w2 ⟨rfl,rfl⟩)
         | (go_at_call 32; refine (HR.out _).mono ?_; rintro e w3 ⟨rfl,hb3⟩; have HX:=hid (HX.out.below hb3); have hbr:=HX.out.br; clear hb3)
         | (refine wpList_store_row rfl 26 _ _ rfl g patZ rfl rfl 26 patZ hbr (qA3 _ _ _ _ _ {} _ _ _) rfl (qA8 {}) ?_)
         | fail)
        exact bodyPost_ret (v:=.tuple #[.agg patZ,.int .i64 4]) (qA2 Try.results14 _ _ g 26 _ (0,0) _ rfl (setRow_heap _ _ _ _ _ _ hbr) Try.underlying26 rfl (qA3 _ _ _ _ _ {} _ _ _)) rfl ⟨by rw [HN.out]; rfl,HX.out.b.setRow (Nat.le_of_eq HX.out.hz) _⟩
      · have HNT:=hid (show numZ l=finN (sc && (decide (1 < sz.length) || decide ((bts t).head? = some 35))) (sigN (bts t) sz sc me pl) from HNS.out)
        clear HNS hD hrb
        go_upto_region 51 with (first
         | go_skip
         | (go_at_call 31; with_reducible refine (HC1.out _).mono ?_; rintro e w0 ⟨rfl,rfl⟩)
         | (go_at_call 31; with_reducible refine (HC2.out _).mono ?_; rintro e w1 ⟨rfl,rfl⟩)
         | (go_at_call 31; with_reducible refine (HC3.out _).mono ?_; rintro e w2 ⟨rfl,rfl⟩)
         | (go_at_call 32; refine (HR.out _).mono ?_; rintro e w3 ⟨rfl,hb3⟩; have HX:=hid (HX.out.below hb3); have hbr:=HX.out.br; clear hb3)
         | fail)
        have d9:=HX.out.bp.v 9 rfl;have f9:=HX.out.bp.fr 9
        go_upto_region 52 with (first
         | go_skip
         | (go_at_call 31; with_reducible refine (HC1.out _).mono ?_; rintro e w0 ⟨rfl,rfl⟩)
         | (go_at_call 31; with_reducible refine (HC2.out _).mono ?_; rintro e w1 ⟨rfl,rfl⟩)
         | (go_at_call 31; with_reducible refine (HC3.out _).mono ?_; rintro e w2 ⟨rfl,rfl⟩)
         | (go_at_call 32; refine (HR.out _).mono ?_; rintro e w3 ⟨rfl,hb3⟩; have HX:=hid (HX.out.below hb3); have hbr:=HX.out.br; clear hb3)
         | fail)
        have HX:=hid (HX.out.set 9 (.int .i64 ((ct:Nat):Int)) (patN { sci:=sc,minExp:=me,plus:=pl,prim:=qAJ sz,sec:=secZ sz,minSig:=ct }) rfl);clear d9 f9 hbr;generalize w3.setCell ⟨g+1,9,none⟩ (.int .i64 (ct:Int))=W9 at *;have d10:=HX.out.bp.v 10 rfl;have f10:=HX.out.bp.fr 10
        go_upto_block 6 with fail
        have HX:=hid (HX.out.set 10 (.int .i64 (t.size:Int)) (patN { sci:=sc,minExp:=me,plus:=pl,prim:=qAJ sz,sec:=secZ sz,minSig:=ct,maxSig:=t.size }) rfl);clear d10 f10;generalize hW10:W9.setCell ⟨g+1,10,none⟩ (.int .i64 (t.size:Int))=W10 at *;clear hW10 hbr;have HCP:=hid (show 0 < ct by rw [← HCT.out]; exact List.countP_pos_iff.2 (List.any_eq_true.1 HAT.out))
        go_wp2_with fail
        go_loopg [210,211,212,213,214,215,216,217,218,219,220,221] t.size (fun k _ _ _ _ _ _ _ _ _ _ _ _ wr=>RX w wr g (patN { sci:=sc,minExp:=me,plus:=pl,prim:=qAJ sz,sec:=secZ sz,minSig:=ct,maxSig:=k })∧k≤t.size∧∀ x ∈ (bts t).take (t.size - k),h35 x=true)
        case atStart=>exact ⟨HX.out,Nat.le_refl _,fun x hx=>by rw [Nat.sub_self] at hx; cases hx⟩
        case round=>
         obtain ⟨hx0,hkt,hall0⟩:=hrel;have HX:=hid hx0;have HALL:=hid hall0;clear hx0 hall0;have hk0:0 < gk:=by
          refine Nat.pos_of_ne_zero fun e=>?_
          subst e;obtain ⟨x,hx,hx2⟩:=List.any_eq_true.1 HAT.out;have:=HALL.out x (by rw [Nat.sub_zero,qB1]; exact hx);simp only [h35,a64,beq_iff_eq] at this hx2;omega
         obtain ⟨n,rfl⟩:∃ n,gk=n+1:=⟨gk - 1,by omega⟩;obtain ⟨j,hj⟩:∃ j,t.size=j+(n+1):=⟨t.size - (n+1),by omega⟩;have hjt:j < t.size:=by omega
         have hji:(t.size:Int) - ((n:Int)+1)=(j:Int):=by omega
         have hni:((n:Int)+1) - 1=(n:Int):=by omega
         have hsj:t.size - (n+1)=j:=by omega
         rw [hsj] at HALL;have HJ:=hid hj;clear hj;have d10:wr.cell? ⟨g+1,10,none⟩=some (.int .i64 ((n:Int)+1)):=HX.out.bp.c 10;have f10:=HX.out.bp.fr 10
         by_cases h3:t[j].toNat=35
         · have g3:(((t[j].toNat:Nat):Int) == 35)=true:=by simp only [beq_iff_eq]; omega
           have HST:=hid (show ∀ x ∈ (bts t).take (t.size - n),h35 x=true from fun x hx=>by
            rw [show t.size - n=j+1 by have:=HJ.out; omega,qAH hjt] at hx
            rcases List.mem_append.1 hx with hx | hx
            · exact HALL.out x hx
            · rw [List.mem_singleton] at hx; subst hx; simp [h35,h3])
           clear h3 hsj
           go_wp2_with (first | go_skip | fail)
           go_roundg n
           case measure=>omega
           case rel=>exact ⟨HX.out.set 10 (.int .i64 (n:Int)) (patN { sci:=sc,minExp:=me,plus:=pl,prim:=qAJ sz,sec:=secZ sz,minSig:=ct,maxSig:=n }) rfl,by omega,HST.out⟩
         · have g3:(((t[j].toNat:Nat):Int) == 35)=false:=by simp only [beq_eq_false_iff_ne,ne_eq]; omega
           have HDW:=hid (dw35 hjt HALL.out h3);clear h3
           go_wp2_with (first | go_skip | fail)
           go_meet
           refine ⟨{ sci:=sc,minExp:=me,plus:=pl,prim:=qAJ sz,sec:=secZ sz,minSig:=ct,maxSig:=n+1 },HX.out,?_,fun _=>by omega,rfl⟩;rw [HNT.out,sigN,HCT.out,HDW.out,show t.size - j=n+1 by have:=HJ.out; omega,hm,decide_eq_true HCP.out,Bool.true_and]
    · obtain ⟨cj,hcj⟩:∃ cj,(bts t).countP dg=cj+1:=⟨(bts t).countP dg - 1,by have:=List.countP_pos_iff.2 (List.any_eq_true.1 hD); omega⟩
      rw [hcj] at HC2;have g47:decide ((0:Int) < (((cj+1:Nat):Nat):Int))=true:=decide_eq_true (by omega);have g47':decide ((0:Int) < (cj:Int)+1)=true:=decide_eq_true (by omega);have HN:=hid (show numZ l=({},6) by rw [HNS.out,hD]; rfl);clear hD HAT hcj
      go_wp2_with (first
       | go_skip
       | (go_at_call 31; with_reducible refine (HC1.out _).mono ?_; rintro e w0 ⟨rfl,rfl⟩)
       | (go_at_call 31; with_reducible refine (HC2.out _).mono ?_; rintro e w1 ⟨rfl,rfl⟩)
       | (go_at_call 31; with_reducible refine (HC3.out _).mono ?_; rintro e w2 ⟨rfl,rfl⟩)
       | (go_at_call 32; refine (HR.out _).mono ?_; rintro e w3 ⟨rfl,hb3⟩; have HX:=hid (HX.out.below hb3); have hbr:=HX.out.br; clear hb3)
       | (refine wpList_store_row rfl 26 _ _ rfl g patZ rfl rfl 26 patZ hbr (qA3 _ _ _ _ _ {} _ _ _) rfl (qA8 {}) ?_)
       | fail)
      exact bodyPost_ret (v:=.tuple #[.agg patZ,.int .i64 6]) (qA2 Try.results14 _ _ g 26 _ (0,0) _ rfl (setRow_heap _ _ _ _ _ _ hbr) Try.underlying26 rfl (qA3 _ _ _ _ _ {} _ _ _)) rfl ⟨by rw [HN.out]; rfl,HX.out.b.setRow (Nat.le_of_eq HX.out.hz) _⟩
  · have HN:=hid (show numZ l=({},6) by rw [HNS.out]; rfl)
    clear hA
    go_wp2_with (first
     | go_skip
     | (go_at_call 31; with_reducible refine (HC1.out _).mono ?_; rintro e w0 ⟨rfl,rfl⟩)
     | (go_at_call 31; with_reducible refine (HC2.out _).mono ?_; rintro e w1 ⟨rfl,rfl⟩)
     | (go_at_call 31; with_reducible refine (HC3.out _).mono ?_; rintro e w2 ⟨rfl,rfl⟩)
     | (go_at_call 32; refine (HR.out _).mono ?_; rintro e w3 ⟨rfl,hb3⟩; have HX:=hid (HX.out.below hb3); have hbr:=HX.out.br; clear hb3)
     | (refine wpList_store_row rfl 26 _ _ rfl g patZ rfl rfl 26 patZ hbr (qA3 _ _ _ _ _ {} _ _ _) rfl (qA8 {}) ?_)
     | fail)
    exact bodyPost_ret (v:=.tuple #[.agg patZ,.int .i64 6]) (qA2 Try.results14 _ _ g 26 _ (0,0) _ rfl (setRow_heap _ _ _ _ _ _ hbr) Try.underlying26 rfl (qA3 _ _ _ _ _ {} _ _ _)) rfl ⟨by rw [HN.out]; rfl,HX.out.b.setRow (Nat.le_of_eq HX.out.hz) _⟩
 case rest=>
 obtain ⟨q,hx,hn,ht,hi⟩:=hcut
 go_step
 refine wp_mono (c:=qGO) (num18 l w wc g m c A sc t q (hid hx) hi (hid hn) ht _ ⟨rfl,rfl,rfl,rfl,rfl,rfl⟩) ?_
 intro e a w' h
 go_step
 exact h
end Go.Proofs.Ytohfadegildnaaa
