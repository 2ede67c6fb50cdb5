import Derived.Deep.LoopGhost
import Derived.Deep.CutBlock
import Derived.Test.YtohfadegildnaaaQMG
set_option linter.all false
set_option maxRecDepth 100000
set_option linter.unusedVariables false
namespace Go.Proofs.Ytohfadegildnaaa
open Go.RowKit
open Lib (hid)
def Mid5 (W:World) (b:List Nat) (wv fv pv:Value) (W':World):Prop:=wv=.string (stz (upA 46 b))∧fv=.string (stz (dnA 46 b))∧pv=.bool (b.any (· == 46))∧∃ n,W'=W.drewN n
set_option maxHeartbeats 16000000 in
theorem num5 (hN:N6):N5:=by
 intro l w W g sc bo me pl HX HN0 hbs
 refine Rs.lay ?_
 iterate 317 intro _
 change Code.wp _ _ _ _ _
 conv=>arg 2; dsimp only [qB9,qB4,qB2,qB8,qB7,qB6,sndS,Try.f14,Option.getD]
 iterate 2 go_step
 go_cut [10,11,12] (Mid5 W (bts bo))
 case first=>
  clear hN;have HC1:=hid (fun W=>refCut_c bo 46 W (by omega));generalize hp:(bts bo).any (· == 46)=point at *;generalize h1:stz (upA 46 (bts bo))=S1 at *;generalize h2:stz (dnA 46 (bts bo))=S2 at *;have HP:=hid hp;have HS1:=hid h1;have HS2:=hid h2;clear hp h1 h2
  go_wp2_with (first
   | go_skip
   | (go_at_call 29; refine (HC1.out _).mono ?_; rintro e w1 ⟨rfl,n1,rfl⟩)
   | fail)
  go_meet
  exact ⟨by rw [HS1.out],by rw [HS2.out],by rw [HP.out],_,rfl⟩
 case rest=>
 obtain ⟨rfl,rfl,rfl,n,rfl⟩:=hcut
 have hU:bts (stz (upA 46 (bts bo)))=upA 46 (bts bo):=qAS (up_lt (qAF bo))
 have hD:bts (stz (dnA 46 (bts bo)))=dnA 46 (bts bo):=qAS (dn_lt (qAF bo))
 have l1:(stz (upA 46 (bts bo))).size≤100000000:=by rw [qAK]; have:=up_len 46 (bts bo); rw [qA0] at this; omega
 have l2:(stz (dnA 46 (bts bo))).size≤100000000:=by rw [qAK]; have:=dn_len 46 (bts bo); rw [qA0] at this; omega
 have hpf:(bts bo).any (· == 46)=false→(stz (dnA 46 (bts bo))).size=0:=fun h=>by rw [qAK,dnA_none h]; rfl
 go_step
 refine wp_mono (c:=qBJ) (hN l w _ g sc _ _ _ me pl (hid (HX.out.drewN n)) (hid (by rw [HN0.out,hU,hD,numW])) hpf l1 l2 _ ⟨rfl,rfl,rfl,rfl,rfl,rfl,rfl⟩) ?_
 intro e a w' h
 go_step
 exact h
def Mid4 (W:World) (p:Prop) (_ _:Value) (W':World):Prop:=W'=W∧p
set_option maxHeartbeats 16000000 in
theorem num4 (hN:N5):N4:=by
 intro l w W g sc bo me pl HX HN0 hbs
 refine Rs.lay ?_
 iterate 317 intro _
 change Code.wp _ _ _ _ _
 conv=>arg 2; dsimp only [qB4,qB2,qB8,qB7,qB6,sndS,Try.f14,Option.getD]
 iterate 2 go_step
 go_cut [8,9] (Mid4 W ((bts bo).all okB=true))
 case first=>
  clear hN;have hbr:=HX.out.br
  go_wp2_with fail
  go_loopw [8,9] (fun iv cv wr=>∃ i:Nat,i≤bo.size∧iv=.int .i64 (i:Int)∧wr=W∧∀ x ∈ (bts bo).take i,okB x=true) (fun iv _ _=>bo.size - (intOf iv).toNat)
  case atStart=>exact ⟨0,Nat.zero_le _,rfl,rfl,fun x hx=>by rw [List.take_zero] at hx; cases hx⟩
  case round=>
   obtain ⟨i,hi,rfl,rfl,hall0⟩:=hrel;have HA:=hid hall0;clear hall0
   by_cases hlt:i < bo.size
   · have g0:decide ((i:Int) < (bo.size:Int))=true:=decide_eq_true (by omega)
     have HST:=hid (fun (h:okB bo[i].toNat=true)=>show ∀ x ∈ (bts bo).take (i+1),okB x=true from fun x hx=>by
      rw [qAH hlt] at hx
      rcases List.mem_append.1 hx with hx | hx
      · exact HA.out x hx
      · rw [List.mem_singleton] at hx; subst hx; exact h)
     have HER:=hid (fun (h:okB bo[i].toNat=false)=>show numZ l=({},4) by
      rw [HN0.out,if_pos];rw [Bool.not_eq_true',List.all_eq_false];exact ⟨bo[i].toNat,by rw [qFM hlt]; simp,by rw [h]; decide⟩)
     by_cases hc:bo[i].toNat=35
     · have g0:(((bo[i].toNat:Nat):Int) != 35)=false:=by simp only [bne_eq_false_iff_eq]; omega
       have HS:=hid (HST.out (by simp [okB,h35,a64,dg,hc]));clear hc HST HER
       go_wp2_with (first | go_skip | fail)
       go_roundw
       case rel=>exact ⟨i+1,by omega,by go_num,by first | trivial | rfl,HS.out⟩
       case measure=>simp [intOf]; omega
     · have g0:(((bo[i].toNat:Nat):Int) != 35)=true:=by simp only [bne_iff_ne,ne_eq]; omega
       have n0:=hc;clear hc
       by_cases hc:bo[i].toNat=64
       · have g1:(((bo[i].toNat:Nat):Int) != 64)=false:=by simp only [bne_eq_false_iff_eq]; omega
         have HS:=hid (HST.out (by simp [okB,h35,a64,dg,hc]));clear hc HST HER
         go_wp2_with (first | go_skip | fail)
         go_roundw
         case rel=>exact ⟨i+1,by omega,by go_num,by first | trivial | rfl,HS.out⟩
         case measure=>simp [intOf]; omega
       · have g1:(((bo[i].toNat:Nat):Int) != 64)=true:=by simp only [bne_iff_ne,ne_eq]; omega
         have n1:=hc;clear hc
         by_cases hc:bo[i].toNat=44
         · have g2:(((bo[i].toNat:Nat):Int) != 44)=false:=by simp only [bne_eq_false_iff_eq]; omega
           have HS:=hid (HST.out (by simp [okB,h35,a64,dg,hc]));clear hc HST HER
           go_wp2_with (first | go_skip | fail)
           go_roundw
           case rel=>exact ⟨i+1,by omega,by go_num,by first | trivial | rfl,HS.out⟩
           case measure=>simp [intOf]; omega
         · have g2:(((bo[i].toNat:Nat):Int) != 44)=true:=by simp only [bne_iff_ne,ne_eq]; omega
           have n2:=hc;clear hc
           by_cases hc:bo[i].toNat=46
           · have g3:(((bo[i].toNat:Nat):Int) != 46)=false:=by simp only [bne_eq_false_iff_eq]; omega
             have HS:=hid (HST.out (by simp [okB,h35,a64,dg,hc]));clear hc HST HER
             go_wp2_with (first | go_skip | fail)
             go_roundw
             case rel=>exact ⟨i+1,by omega,by go_num,by first | trivial | rfl,HS.out⟩
             case measure=>simp [intOf]; omega
           · have g3:(((bo[i].toNat:Nat):Int) != 46)=true:=by simp only [bne_iff_ne,ne_eq]; omega
             have n3:=hc;clear hc
             by_cases hc:bo[i].toNat < 48
             · have g5:decide (((bo[i].toNat:Nat):Int) < 48)=true:=decide_eq_true (by omega)
               have HN:=hid (HER.out (by simp only [okB,h35,a64,dg,Bool.or_eq_false_iff,Bool.and_eq_false_iff,decide_eq_false_iff_not,beq_eq_false_iff_ne,ne_eq]; omega));clear HST HER n0 n1 n2 n3 hc
               go_wp2_with (first
                | go_skip
                | (refine wpList_store_row rfl 26 _ _ rfl g patZ rfl rfl 26 patZ hbr (qA3 _ _ _ _ _ {} _ _ _) rfl (qA8 {}) ?_)
                | fail)
               exact bodyPost_ret (v:=.tuple #[.agg patZ,.int .i64 4]) (qA2 Try.results14 _ _ g 26 _ (0,0) _ rfl (setRow_heap _ _ _ _ _ _ hbr) Try.underlying26 rfl (qA3 _ _ _ _ _ {} _ _ _)) rfl ⟨by rw [HN.out]; rfl,HX.out.b.setRow (Nat.le_of_eq HX.out.hz) _⟩
             · have g5:decide (((bo[i].toNat:Nat):Int) < 48)=false:=decide_eq_false (by omega)
               have n5:=hc;clear hc
               by_cases hc:57 < bo[i].toNat
               · have g6:decide ((57:Int) < ((bo[i].toNat:Nat):Int))=true:=decide_eq_true (by omega)
                 have HN:=hid (HER.out (by simp only [okB,h35,a64,dg,Bool.or_eq_false_iff,Bool.and_eq_false_iff,decide_eq_false_iff_not,beq_eq_false_iff_ne,ne_eq]; omega));clear HST HER n0 n1 n2 n3 n5 hc
                 go_wp2_with (first
                  | go_skip
                  | (refine wpList_store_row rfl 26 _ _ rfl g patZ rfl rfl 26 patZ hbr (qA3 _ _ _ _ _ {} _ _ _) rfl (qA8 {}) ?_)
                  | fail)
                 exact bodyPost_ret (v:=.tuple #[.agg patZ,.int .i64 4]) (qA2 Try.results14 _ _ g 26 _ (0,0) _ rfl (setRow_heap _ _ _ _ _ _ hbr) Try.underlying26 rfl (qA3 _ _ _ _ _ {} _ _ _)) rfl ⟨by rw [HN.out]; rfl,HX.out.b.setRow (Nat.le_of_eq HX.out.hz) _⟩
               · have g6:decide ((57:Int) < ((bo[i].toNat:Nat):Int))=false:=decide_eq_false (by omega)
                 have HS:=hid (HST.out (by simp only [okB,dg,Bool.or_eq_true,Bool.and_eq_true,decide_eq_true_eq]; omega));clear hc HST HER n0 n1 n2 n3 n5
                 go_wp2_with (first | go_skip | fail)
                 go_roundw
                 case rel=>exact ⟨i+1,by omega,by go_num,by first | trivial | rfl,HS.out⟩
                 case measure=>simp [intOf]; omega
   · obtain rfl:i=bo.size:=by omega
     have g0:decide ((bo.size:Int) < (bo.size:Int))=false:=decide_eq_false (by omega);have HE:=hid (show (bts bo).all okB=true from List.all_eq_true.2 fun x hx=>HA.out x (by rw [qB1]; exact hx));clear HA
     go_wp2_with fail
     go_meet
     exact ⟨rfl,HE.out⟩
 case rest=>
 obtain ⟨rfl,he⟩:=hcut
 go_step
 refine wp_mono (c:=qB9) (hN l w wc g sc bo me pl HX (hid (by rw [HN0.out,he,if_neg (by decide)])) hbs _ ⟨rfl,rfl,rfl,rfl,rfl⟩) ?_
 intro e a w' h
 go_step
 exact h
set_option maxHeartbeats 16000000 in
theorem num7 (hN:N8):N7:=by
 intro l w W g sc point wh fr me pl HX HN0 hpf hws hfs
 refine Rs.lay ?_
 iterate 315 intro _
 change Code.wp _ _ _ _ _
 conv=>arg 2; dsimp only [qBN,qBJ,qB9,qB4,qB2,qB8,qB7,qB6,sndS,Try.f14,Option.getD]
 iterate 2 go_step
 go_cut [] (FMid W ((bts fr).any (· == 44)=false))
 case first=>
  clear hN;have hbr:=HX.out.br;have HC1:Hid (∀ W,Calls Try.prog 31 #[.string fr,.int .u8 44] W fun e w'=>e=.returned (.int .i64 (((bts fr).countP (· == 44):Nat):Int))∧W=w'):=hid (fun W=>by have:=qAV fr 44 W (by omega); rwa [qC9 (by decide)] at this);have HZ:Hid ((bts fr).any (· == 44)=decide (0 < (bts fr).countP (· == 44))):=hid (by
   rcases e:(bts fr).any (· == 44) with _ | _
   · rw [show (bts fr).countP (· == 44)=0 from List.countP_eq_zero.2 fun x hx=>by rw [List.any_eq_false.1 e x hx |> Bool.eq_false_iff.2]; decide]; rfl
   · rw [decide_eq_true (List.countP_pos_iff.2 (List.any_eq_true.1 e))])
  generalize (bts fr).countP (· == 44)=ca at *
  by_cases h0:0 < ca
  · obtain ⟨cj,rfl⟩:∃ cj,ca=cj+1:=⟨ca - 1,by omega⟩
    have g1:decide ((0:Int) < (((cj+1:Nat):Nat):Int))=true:=decide_eq_true (by omega);have g1':decide ((0:Int) < (cj:Int)+1)=true:=decide_eq_true (by omega);have HN:=hid (show numZ l=({},5) by rw [HN0.out,HZ.out,decide_eq_true h0]; rfl)
    go_wp2_with (first
     | go_skip
     | (go_at_call 31; with_reducible refine (HC1.out _).mono ?_; rintro e w1 ⟨rfl,rfl⟩)
     | (refine wpList_store_row rfl 26 _ _ rfl g patZ rfl rfl 26 patZ hbr (qA3 _ _ _ _ _ {} _ _ _) rfl (qA8 {}) ?_)
     | fail)
    exact bodyPost_ret (v:=.tuple #[.agg patZ,.int .i64 5]) (qA2 Try.results14 _ _ g 26 _ (0,0) _ rfl (setRow_heap _ _ _ _ _ _ hbr) Try.underlying26 rfl (qA3 _ _ _ _ _ {} _ _ _)) rfl ⟨by rw [HN.out]; rfl,HX.out.b.setRow (Nat.le_of_eq HX.out.hz) _⟩
  · obtain rfl:ca=0:=by omega
    have HE:=hid (HZ.out.trans (decide_eq_false h0));clear HZ h0
    go_wp2_with (first
     | go_skip
     | (go_at_call 31; with_reducible refine (HC1.out _).mono ?_; rintro e w1 ⟨rfl,rfl⟩)
     | fail)
    go_meet
    exact ⟨rfl,HE.out⟩
 case rest=>
 obtain ⟨rfl,he⟩:=hcut
 go_step
 refine wp_mono (c:=qBW) (hN l w wc g sc point wh fr me pl HX (hid (by rw [HN0.out,he,if_neg (by decide)])) hpf hws hfs _ ⟨rfl,rfl,rfl,rfl,rfl,rfl,rfl⟩) ?_
 intro e a w' h
 go_step
 exact h
set_option maxHeartbeats 16000000 in
theorem num6 (hN:N7):N6:=by
 intro l w W g sc point wh fr me pl HX HN0 hpf hws hfs
 refine Rs.lay ?_
 iterate 315 intro _
 change Code.wp _ _ _ _ _
 conv=>arg 2; dsimp only [qBJ,qB9,qB4,qB2,qB8,qB7,qB6,sndS,Try.f14,Option.getD]
 iterate 2 go_step
 go_cut [] (FMid W (((bts fr).any (· == 46) || (point && (bts fr).isEmpty))=false))
 case first=>
  clear hN;have hbr:=HX.out.br;have HC1:Hid (∀ W,Calls Try.prog 31 #[.string fr,.int .u8 46] W fun e w'=>e=.returned (.int .i64 (((bts fr).countP (· == 46):Nat):Int))∧W=w'):=hid (fun W=>by have:=qAV fr 46 W (by omega); rwa [qC9 (by decide)] at this);have HZ:Hid ((bts fr).any (· == 46)=decide (0 < (bts fr).countP (· == 46))):=hid (by
   rcases e:(bts fr).any (· == 46) with _ | _
   · rw [show (bts fr).countP (· == 46)=0 from List.countP_eq_zero.2 fun x hx=>by rw [List.any_eq_false.1 e x hx |> Bool.eq_false_iff.2]; decide]; rfl
   · rw [decide_eq_true (List.countP_pos_iff.2 (List.any_eq_true.1 e))])
  generalize (bts fr).countP (· == 46)=ca at *
  by_cases h0:0 < ca
  · obtain ⟨cj,rfl⟩:∃ cj,ca=cj+1:=⟨ca - 1,by omega⟩
    have g1:decide ((0:Int) < (((cj+1:Nat):Nat):Int))=true:=decide_eq_true (by omega);have g1':decide ((0:Int) < (cj:Int)+1)=true:=decide_eq_true (by omega);have HN:=hid (show numZ l=({},4) by rw [HN0.out,HZ.out,decide_eq_true h0]; rfl)
    go_wp2_with (first
     | go_skip
     | (go_at_call 31; with_reducible refine (HC1.out _).mono ?_; rintro e w1 ⟨rfl,rfl⟩)
     | (refine wpList_store_row rfl 26 _ _ rfl g patZ rfl rfl 26 patZ hbr (qA3 _ _ _ _ _ {} _ _ _) rfl (qA8 {}) ?_)
     | fail)
    exact bodyPost_ret (v:=.tuple #[.agg patZ,.int .i64 4]) (qA2 Try.results14 _ _ g 26 _ (0,0) _ rfl (setRow_heap _ _ _ _ _ _ hbr) Try.underlying26 rfl (qA3 _ _ _ _ _ {} _ _ _)) rfl ⟨by rw [HN.out]; rfl,HX.out.b.setRow (Nat.le_of_eq HX.out.hz) _⟩
  · obtain rfl:ca=0:=by omega
    have HZ0:=hid (HZ.out.trans (decide_eq_false h0));clear HZ h0
    cases point
    · have HE:=hid (show ((bts fr).any (· == 46) || (false && (bts fr).isEmpty))=false by rw [HZ0.out]; rfl)
      go_wp2_with (first
       | go_skip
       | (go_at_call 31; with_reducible refine (HC1.out _).mono ?_; rintro e w1 ⟨rfl,rfl⟩)
       | fail)
      go_meet
      exact ⟨rfl,HE.out⟩
    · rcases he:(bts fr).isEmpty with _ | _
      · have h8:fr.toList.isEmpty=false:=by rw [qBH]; exact he
        have HE:=hid (show ((bts fr).any (· == 46) || (true && (bts fr).isEmpty))=false by rw [HZ0.out,he]; rfl);clear he
        go_wp2_with (first
         | go_skip
         | (go_at_call 31; with_reducible refine (HC1.out _).mono ?_; rintro e w1 ⟨rfl,rfl⟩)
         | fail)
        go_meet
        exact ⟨rfl,HE.out⟩
      · have h8:fr.toList.isEmpty=true:=by rw [qBH]; exact he
        have HN:=hid (show numZ l=({},4) by rw [HN0.out,HZ0.out,he]; rfl);clear he
        go_wp2_with (first
         | go_skip
         | (go_at_call 31; with_reducible refine (HC1.out _).mono ?_; rintro e w1 ⟨rfl,rfl⟩)
         | (refine wpList_store_row rfl 26 _ _ rfl g patZ rfl rfl 26 patZ hbr (qA3 _ _ _ _ _ {} _ _ _) rfl (qA8 {}) ?_)
         | fail)
        exact bodyPost_ret (v:=.tuple #[.agg patZ,.int .i64 4]) (qA2 Try.results14 _ _ g 26 _ (0,0) _ rfl (setRow_heap _ _ _ _ _ _ hbr) Try.underlying26 rfl (qA3 _ _ _ _ _ {} _ _ _)) rfl ⟨by rw [HN.out]; rfl,HX.out.b.setRow (Nat.le_of_eq HX.out.hz) _⟩
 case rest=>
 obtain ⟨rfl,he⟩:=hcut
 go_step
 refine wp_mono (c:=qBN) (hN l w wc g sc point wh fr me pl HX (hid (by rw [HN0.out,he,if_neg (by decide)])) hpf hws hfs _ ⟨rfl,rfl,rfl,rfl,rfl,rfl,rfl⟩) ?_
 intro e a w' h
 go_step
 exact h
end Go.Proofs.Ytohfadegildnaaa
