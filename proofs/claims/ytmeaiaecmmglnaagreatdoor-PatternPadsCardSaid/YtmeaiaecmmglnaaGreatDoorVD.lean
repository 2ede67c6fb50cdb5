import Derived.Test.YtmeaiaecmmglnaaGreatDoorTI
import Derived.Test.YtmeaiaecmmglnaaGreatDoorVC
set_option linter.all false
set_option maxRecDepth 100000
namespace Go.Proofs.YtmeaiaecmmglnaaGreatDoor
open Go.RowKit
open Lib (hid)
theorem sgK_at (r:Int):(r=45∧sgK r=2)∨(r=43∧sgK r=3)∨(r=37∧sgK r=4)∨(r=8240∧sgK r=5)∨(r=164∧sgK r=6)∨((r≠45∧r≠43∧r≠37∧r≠8240∧r≠164)∧sgK r=0):=by
 unfold sgK; repeat' split
 all_goals omega
set_option maxHeartbeats 1000000 in
theorem qL2 (r:Int) (w:World):Calls Tryz.prog 66 #[.int .i32 r] w fun e w'=>e=.returned (.int .i64 (sgK r))∧w=w':=by
 rcases sgK_at r with ⟨rfl,h⟩ | ⟨rfl,h⟩ | ⟨rfl,h⟩ | ⟨rfl,h⟩ | ⟨rfl,h⟩ | ⟨⟨h1,h2,h3,h4,h5⟩,h⟩
 · rw [h]
   go_enter Tryz.func66,Tryz.ntmps66
   go_wp2
   go_ret
   exact ⟨rfl,rfl⟩
 · rw [h]
   go_enter Tryz.func66,Tryz.ntmps66
   go_wp2
   go_ret
   exact ⟨rfl,rfl⟩
 · rw [h]
   go_enter Tryz.func66,Tryz.ntmps66
   go_wp2
   go_ret
   exact ⟨rfl,rfl⟩
 · rw [h]
   go_enter Tryz.func66,Tryz.ntmps66
   go_wp2
   go_ret
   exact ⟨rfl,rfl⟩
 · rw [h]
   go_enter Tryz.func66,Tryz.ntmps66
   go_wp2
   go_ret
   exact ⟨rfl,rfl⟩
 · rw [h]
   have g1:(r == 45)=false:=by simpa using h1
   have g2:(r == 43)=false:=by simpa using h2
   have g3:(r == 37)=false:=by simpa using h3
   have g4:(r == 8240)=false:=by simpa using h4
   have g5:(r == 164)=false:=by simpa using h5
   clear h1 h2 h3 h4 h5 h
   go_enter Tryz.func66,Tryz.ntmps66
   go_wp2
   go_ret
   exact ⟨rfl,rfl⟩
set_option maxHeartbeats 1000000 in
theorem qIB (r:Int) (w:World):Calls Tryz.prog 65 #[.int .i32 r] w fun e w'=>e=.returned (.bool (mrk r))∧w=w':=by
 rcases hm:mrk r with _ | _
 · have hn:¬ mrk r=true:=by rw [hm]; decide
   rw [mrk_iff] at hn;have h1:(r == 35)=false:=by simp only [beq_eq_false_iff_ne,ne_eq]; omega
   have h2:(r == 64)=false:=by simp only [beq_eq_false_iff_ne,ne_eq]; omega
   have h3:(r == 44)=false:=by simp only [beq_eq_false_iff_ne,ne_eq]; omega
   have h4:(r == 46)=false:=by simp only [beq_eq_false_iff_ne,ne_eq]; omega
   have h5:(r == 59)=false:=by simp only [beq_eq_false_iff_ne,ne_eq]; omega
   have h6:(r == 42)=false:=by simp only [beq_eq_false_iff_ne,ne_eq]; omega
   by_cases h0:48≤r
   · have g0:decide (48≤r)=true:=decide_eq_true h0
     have g1:decide (r≤57)=false:=decide_eq_false (by omega);clear hm hn h0
     go_enter Tryz.func65,Tryz.ntmps65
     go_wp2
     go_ret
     exact ⟨rfl,rfl⟩
   · have g0:decide (48≤r)=false:=decide_eq_false h0
     clear hm hn h0
     go_enter Tryz.func65,Tryz.ntmps65
     go_wp2
     go_ret
     exact ⟨rfl,rfl⟩
 · rcases mrk_iff.1 hm with ⟨h0,h1⟩ | rfl | rfl | rfl | rfl | rfl | rfl
   · have g0:decide (48≤r)=true:=decide_eq_true h0
     have g1:decide (r≤57)=true:=decide_eq_true h1;clear hm h0 h1
     go_enter Tryz.func65,Tryz.ntmps65
     go_wp2
     go_ret
     exact ⟨rfl,rfl⟩
   all_goals
    clear hm
    go_enter Tryz.func65,Tryz.ntmps65
    go_wp2
    go_ret
    exact ⟨rfl,rfl⟩
theorem nds_eq (r:Int):nds r=(((decide (0 < sgK r) || mrk r) || decide (r=69)) || decide (r=39)):=by
 have h:=qHP r
 have h1:decide (r ∈ ints sgs)=decide (0 < sgK r):=by
  rw [decide_eq_decide,← sgK_pos]; omega
 have h2:decide (r ∈ ints oth)=(decide (r=69) || decide (r=39)):=by
  rw [oth_cons,← Bool.decide_or,decide_eq_decide]; simp
 rw [nds,h1,h2,Bool.or_assoc,Bool.or_assoc,Bool.or_assoc]
set_option maxHeartbeats 1000000 in
theorem refNeeds_c (r:Int) (w:World):Calls Tryz.prog 48 #[.int .i32 r] w fun e w'=>e=.returned (.bool (nds r))∧w=w':=by
 have C1:=hid (qL2 r w)
 have C2:=hid (qIB r w)
 rw [nds_eq]
 generalize sgK r=K at *
 generalize mrk r=M at *
 rcases hK:decide (0 < K) with _ | _
 · cases M
   · by_cases h1:r=69
     · subst h1
       go_enter Tryz.func48,Tryz.ntmps48
       go_wp2_with fail
       refine C1.out.mono ?_;rintro e w1 ⟨rfl,rfl⟩
       go_wp2_with fail
       refine C2.out.mono ?_;rintro e w1 ⟨rfl,rfl⟩
       go_wp2
       go_ret
       exact ⟨rfl,rfl⟩
     · have g1:(r == 69)=false:=by simpa using h1
       by_cases h2:r=39
       · subst h2
         clear h1
         go_enter Tryz.func48,Tryz.ntmps48
         go_wp2_with fail
         refine C1.out.mono ?_;rintro e w1 ⟨rfl,rfl⟩
         go_wp2_with fail
         refine C2.out.mono ?_;rintro e w1 ⟨rfl,rfl⟩
         go_wp2
         go_ret
         exact ⟨rfl,rfl⟩
       · have g2:(r == 39)=false:=by simpa using h2
         rw [decide_eq_false h1,decide_eq_false h2];clear h1 h2
         go_enter Tryz.func48,Tryz.ntmps48
         go_wp2_with fail
         refine C1.out.mono ?_;rintro e w1 ⟨rfl,rfl⟩
         go_wp2_with fail
         refine C2.out.mono ?_;rintro e w1 ⟨rfl,rfl⟩
         go_wp2
         go_ret
         exact ⟨rfl,rfl⟩
   · go_enter Tryz.func48,Tryz.ntmps48
     go_wp2_with fail
     refine C1.out.mono ?_;rintro e w1 ⟨rfl,rfl⟩
     go_wp2_with fail
     refine C2.out.mono ?_;rintro e w1 ⟨rfl,rfl⟩
     go_wp2
     go_ret
     exact ⟨rfl,rfl⟩
 · go_enter Tryz.func48,Tryz.ntmps48
   go_wp2_with fail
   refine C1.out.mono ?_;rintro e w1 ⟨rfl,rfl⟩
   go_wp2
   go_ret
   exact ⟨rfl,rfl⟩
theorem im_ext {is js:List Itm} (hl:is.length=js.length) (h:∀ j,j < is.length→im is j=im js j):is=js:=by
 apply List.ext_getElem hl
 intro i h1 h2
 have:=h i h1
 rwa [im_eq h1,im_eq h2] at this
set_option maxHeartbeats 1000000 in
theorem qGK (A A':Option Addr) (n c n' c':Nat) (is js:List Itm) (w:World) (h:Its w A n is) (h':Its w A' n' js) :
 Calls Tryz.prog 14 #[.slice A n c,.slice A' n' c'] w fun e w'=>e=.returned (.bool (decide (is=js)))∧Below w.heap.size w w':=by
 have hn:=h.2.1
 have hn':=h'.2.1
 have hl:=hid h.len
 have hl':=hid h'.len
 have H:=hid h
 have H':=hid h'
 clear h h'
 by_cases hne:n=n'
 · subst hne
   go_enter Tryz.func14,Tryz.ntmps14
   go_wp2
   go_loopw [5] (fun i wr=>∃ k m:Nat,k≤n∧i=.int .i64 k∧wr=w.drewN m∧∀ j,j < k→im is j=im js j) (fun i _=>n - (intOf i).toNat)
   case atStart=>exact ⟨0,0,Nat.zero_le _,rfl,rfl,fun j hj=>absurd hj (by omega)⟩
   case round=>
    obtain ⟨k,m,hk,rfl,rfl,hall0⟩:=hrel;have hall:=hid hall0;clear hall0
    by_cases hlt:k < n
    · obtain ⟨ad,rfl,hb,c0,c1,_⟩:=H.out.at_ hlt
      obtain ⟨ad',rfl,hb',d0,d1,_⟩:=H'.out.at_ hlt;have HE:Hid (im is k=im js k↔((im is k).1=(im js k).1∧(im is k).2=(im js k).2)):=hid Prod.ext_iff;generalize (im is k).1=X at c0 HE;generalize (im is k).2=P at c1 HE;generalize (im js k).1=Y at d0 HE;generalize (im js k).2=Q at d1 HE
      by_cases hXY:X=Y
      · have g1:(X != Y)=false:=by simpa using hXY
        by_cases hPQ:P=Q
        · have g2:(P != Q)=false:=by simpa using hPQ
          have HE2:=hid (HE.out.2 ⟨hXY,hPQ⟩);clear hXY hPQ HE
          go_wp2
          go_quiet (fail)
          go_wp2
          go_roundw
          case rel=>
           refine ⟨k+1,_,by omega,by go_num,rfl,fun j hj=>?_⟩
           rcases Nat.lt_or_ge j k with hjk | hjk
           · exact hall.out j hjk
           · obtain rfl:j=k:=by omega
             exact HE2.out
          case measure=>simp [intOf]; omega
        · have g2:(P != Q)=true:=by simpa using hPQ
          have HE2:Hid (¬ im is k=im js k):=hid fun e=>hPQ (HE.out.1 e).2
          clear hXY hPQ HE
          go_wp2
          go_quiet (fail)
          go_wp2
          go_ret
          exact ⟨congrArg _ (congrArg _ (decide_eq_false fun e=>HE2.out (by rw [e])).symm),((Below.refl _ _).of_drewN _).of_drewN _⟩
      · have g1:(X != Y)=true:=by simpa using hXY
        have HE2:Hid (¬ im is k=im js k):=hid fun e=>hXY (HE.out.1 e).1
        clear hXY HE
        go_wp2
        go_quiet (fail)
        go_wp2
        go_ret
        exact ⟨congrArg _ (congrArg _ (decide_eq_false fun e=>HE2.out (by rw [e])).symm),((Below.refl _ _).of_drewN _).of_drewN _⟩
    · go_wp2
      go_ret
      refine ⟨?_,(Below.refl _ _).of_drewN _⟩;have:decide (is=js)=true:=decide_eq_true (im_ext (by rw [hl.out,hl'.out]) fun j hj=>hall.out j (by rw [hl.out] at hj; omega));rw [this]; rfl
 · have hb:(((n:Nat):Int) != (n':Int))=true:=by simp; omega
   go_enter Tryz.func14,Tryz.ntmps14
   go_wp2
   go_ret
   refine ⟨?_,Below.refl _ _⟩;have:decide (is=js)=false:=by
    simp only [decide_eq_false_iff_not];intro e; apply hne;rw [← hl.out,← hl'.out,e]
   rw [this]; rfl
set_option maxHeartbeats 1000000 in
theorem qHE (A:Option Addr) (n c:Nat) (is:List Itm) (w:World) (h:Its w A n is):Calls Tryz.prog 11 #[.slice A n c] w fun e w'=>e=.returned (.bool (is.all mayI))∧w=w':=by
 have HL:=hid h.len
 have hn:=h.2.1
 have H:=hid h
 clear h
 go_enter Tryz.func11,Tryz.ntmps11
 go_wp2
 go_loopw [3] (fun iv wr=>∃ (k:Nat),k≤n∧iv=.int .i64 (k:Int)∧(is.take k).all mayI=true∧wr=w) (fun iv _=>n - (intOf iv).toNat)
 case atStart=>exact ⟨0,Nat.zero_le _,rfl,rfl,rfl⟩
 case round=>
  obtain ⟨k,hk,rfl,hall0,rfl⟩:=hrel;have HALL:=hid hall0;clear hall0
  by_cases hlt:k < n
  · obtain ⟨ad,rfl,_,c0,c1,_⟩:=H.out.at_ hlt
    have HS:=hid (qGL is (k:=k) (by rw [HL.out]; exact hlt));have HMEM:=hid (im_mem (is:=is) (k:=k) (by rw [HL.out]; exact hlt));generalize im is k=i at *;obtain ⟨a,r⟩:=i;dsimp only at c0 c1;have HNO:Hid (mayI (a,r)=false→is.all mayI=false):=hid fun hm=>by
     rw [Bool.eq_false_iff];intro ha;rw [List.all_eq_true.1 ha _ HMEM.out] at hm; cases hm
    have HYES:Hid (mayI (a,r)=true→(is.take (k+1)).all mayI=true):=hid fun hm=>by
     rw [HS.out,List.all_append,HALL.out]; simp [hm]
    by_cases h1:a=1
    · subst h1
      have CZ:=hid (qAT r wr)
      rcases hz:isZ r with _ | _
      · rw [hz] at CZ
        have HV:=hid (HNO.out (by rw [Bool.eq_false_iff]; intro hm; rcases qFO.1 hm with ⟨_,h⟩ | ⟨h,_,_⟩; (rw [hz] at h; cases h); omega));clear hz
        go_wp2_with fail
        refine CZ.out.mono ?_;rintro e w0 ⟨rfl,rfl⟩
        go_wp2
        go_ret
        rw [HV.out];exact ⟨rfl,rfl⟩
      · rw [hz] at CZ
        have HV:=hid (HYES.out (qFO.2 (.inl ⟨rfl,hz⟩)));clear hz
        go_wp2_with fail
        refine CZ.out.mono ?_;rintro e w0 ⟨rfl,rfl⟩
        go_wp2
        go_roundw
        case rel=>exact ⟨k+1,by omega,by go_num,HV.out,by first | trivial | rfl⟩
        case measure=>simp [intOf]; omega
    · have g1:(a == 1)=false:=by simpa using h1
      by_cases h2:2≤a∧a≤6∧r=0
      · obtain ⟨h2,h3,rfl⟩:=h2
        have HV:=hid (HYES.out (qFO.2 (.inr ⟨h2,h3,rfl⟩)));have g2:decide (a < 1)=false:=decide_eq_false (by omega);have g3:decide (6 < a)=false:=decide_eq_false (by omega);have g4:decide (1 < a)=true:=decide_eq_true (by omega);clear h1 h2 h3
        go_wp2
        go_roundw
        case rel=>exact ⟨k+1,by omega,by go_num,HV.out,by first | trivial | rfl⟩
        case measure=>simp [intOf]; omega
      · have HV:=hid (HNO.out (by rw [Bool.eq_false_iff]; intro hm; rcases qFO.1 hm with ⟨h,_⟩ | h; (exact h1 h); (exact h2 h)))
        by_cases h3:a < 1
        · have g2:decide (a < 1)=true:=decide_eq_true h3
          clear h1 h2 h3
          go_wp2
          go_ret
          rw [HV.out];exact ⟨rfl,rfl⟩
        · have g2:decide (a < 1)=false:=decide_eq_false h3
          by_cases h4:6 < a
          · have g3:decide (6 < a)=true:=decide_eq_true h4
            clear h1 h2 h3 h4
            go_wp2
            go_ret
            rw [HV.out];exact ⟨rfl,rfl⟩
          · have g3:decide (6 < a)=false:=decide_eq_false h4
            have g4:decide (1 < a)=true:=decide_eq_true (by omega);have g5:(r != 0)=true:=by simp only [bne_iff_ne,ne_eq]; omega
            clear h1 h2 h3 h4
            go_wp2
            go_ret
            rw [HV.out];exact ⟨rfl,rfl⟩
  · rw [List.take_of_length_le (by rw [HL.out]; omega)] at HALL
    go_wp2
    go_ret
    rw [HALL.out];exact ⟨rfl,rfl⟩
end Go.Proofs.YtmeaiaecmmglnaaGreatDoor
