import Derived.Test.YtmeaiaecmmglnaaGreatDoorUD
set_option linter.all false
set_option maxRecDepth 100000
namespace Go.Proofs.YtmeaiaecmmglnaaGreatDoor
open Go.RowKit
open Lib (hid)
theorem qIW (s:ByteArray) (w:World) (hs:s.size≤1000000000000000) :
 Calls Tryz.prog 44 #[.string s] w fun e w'=>e=.returned (.tuple #[.int .i32 (fstP (bts s)).1,.int .i64 (fstP (bts s)).2])∧Below w.heap.size w w':=by
 by_cases he:s.size=0
 · have h0:bts s=[]:=List.eq_nil_of_length_eq_zero (by rw [qA1]; exact he)
   have hem:s.toList.isEmpty=true:=by rw [qB0]; exact decide_eq_true he
   have HV:=hid (show fstP (bts s)=(0,0) by rw [h0,qAG fstN_nil]);clear h0
   go_enter Tryz.func44,Tryz.ntmps44
   go_wp2
   go_ret2
   rw [HV.out];exact ⟨rfl,Below.refl _ _⟩
 · have hp:0 < s.size:=by omega
   have hb:(bts s).getD 0 0 < 256:=by rw [qBN s 0 hp]; exact s[0].toNat_lt
   by_cases h1:(bts s).getD 0 0 < 128
   · exact first_1 s w hs hp h1
   by_cases h2:192≤(bts s).getD 0 0
   · by_cases h3:(bts s).getD 0 0 < 224
     · exact first_2 s w hs hp h2 h3
     by_cases h4:(bts s).getD 0 0 < 240
     · exact first_3 s w hs hp (by omega) h4
     by_cases h5:(bts s).getD 0 0 < 248
     · exact first_4 s w hs hp (by omega) h5
     · have HV:=hid (qAG (qK4 (qAP s) (klass_0 (.inr (by omega)))))
       have hne:s.toList.isEmpty=false:=by rw [qB0]; exact decide_eq_false he
       have hb0:s[0].toNat=(bts s).getD 0 0:=(qBN s 0 hp).symm;generalize (bts s).getD 0 0=b at *;have g1:¬ (b:Int) < 128:=by omega
       have g2:(192:Int)≤(b:Int):=by omega
       have g3:¬ (b:Int) < 224:=by omega
       have g4:¬ (b:Int) < 240:=by omega
       have g5:¬ (b:Int) < 248:=by omega
       have g6:(240:Int)≤(b:Int):=by omega
       have g7:(224:Int)≤(b:Int):=by omega
       go_enter Tryz.func44,Tryz.ntmps44
       go_wp2
       go_ret2
       rw [HV.out];exact ⟨rfl,Below.refl _ _⟩
   · have HV:=hid (qAG (qK4 (qAP s) (klass_0 (.inl ⟨by omega,by omega⟩))))
     have hne:s.toList.isEmpty=false:=by rw [qB0]; exact decide_eq_false he
     have hb0:s[0].toNat=(bts s).getD 0 0:=(qBN s 0 hp).symm;generalize (bts s).getD 0 0=b at *;have g1:¬ (b:Int) < 128:=by omega
     have g2:¬ (192:Int)≤(b:Int):=by omega
     have g6:¬ (240:Int)≤(b:Int):=by omega
     have g7:¬ (224:Int)≤(b:Int):=by omega
     go_enter Tryz.func44,Tryz.ntmps44
     go_wp2
     go_ret2
     rw [HV.out];exact ⟨rfl,Below.refl _ _⟩
set_option maxHeartbeats 1000000 in
theorem refRunes_c (s:ByteArray) (w:World) (hs:s.size≤10000000000):Calls Tryz.prog 43 #[.string s] w fun e w'=>
 ∃ A m c,e=.returned (.tuple #[.slice A m c,.int .i64 (badZ (bts s))])∧OwnR w' w.heap.size A m c (ints (pts (bts s)))∧Below w.heap.size w w':=by
 generalize hg:w.heap.size=g at *
 have Hg:=hid hg
 clear hg
 have B0:=hid (show Below g w w by rw [← Hg.out]; exact Below.refl _ _)
 go_enter Tryz.func43,Tryz.ntmps43
 go_wp2
 go_loopw [4,5,6,7] (fun v pv _ _ wr=>∃ (p:Nat) (cs:List Nat),Upto s p cs∧pv=.int .i64 (p:Int)∧wr.ownsRow g 21 1 v cs.length (i32s (ints cs))∧Below g w wr) (fun _ pv _ _ _=>s.size - (intOf pv).toNat)
 case atStart=>exact ⟨0,[],Upto.zero s,rfl,World.ownsRow_nil _ _ _ _,B0.out⟩
 case round=>
  obtain ⟨p,cs,hu0,rfl,ho0,hb0⟩:=hrel;have HU:=hid hu0;have HO:=hid ho0;have HB:=hid hb0;have hple:=hu0.1;have hcl:=hu0.count;have hgs:g≤wr.heap.size:=by have:=hb0.size; have:=Hg.out; omega
  clear hu0 ho0 hb0
  by_cases hlt:p < s.size
  · have hez:(s.extract p s.size).size≤1000000000000000:=by rw [ByteArray.size_extract]; omega
    have HC:=hid (qIW (s.extract p s.size) wr hez);rw [qC5] at HC
    rcases hf:fstN ((bts s).drop p) with _ | c
    · rw [qAG hf] at HC
      have HF:=hid hf;clear hf
      go_wp2_with fail
      refine HC.out.mono ?_;rintro e w1 ⟨rfl,hb⟩;have HB1:=hid (HB.out.trans (hb.mono hgs));clear hb HC
      go_wp2
      go_ret2
      obtain ⟨_,hne,hbad⟩:=HU.out.here hlt HF.out;rw [hbad,(rgt_false hne).2];exact ⟨_,_,_,rfl,ownR_nil _ _,HB1.out⟩
    · obtain ⟨hc,hu1,_,hw1⟩:=HU.out.step hf
      rw [qD7 hf] at HC;have HU1:=hid hu1;have hple1:=hu1.1;have hcle:=qFK hc;clear hu1 hf;have hnz:¬ ((encN c).length:Int)=0:=by omega
      generalize hL:(encN c).length=L at *
      go_wp2_with fail
      refine HC.out.mono ?_;rintro e w1 ⟨rfl,hb⟩;have HB1:=hid (HB.out.trans (hb.mono hgs));have HO1:=hid (own_kept HO.out hb rfl);have hgs1:g≤w1.heap.size:=by have:=hb.size; omega
      clear hb HC
      go_wp2_with (at_builtin; go_must (refine qEY rfl (.tmp 22) (.tmp 24) _ rfl Tryz.underlying93 g u4 cs.length _ rfl HO1.out _ rfl (c:Int) rfl (by omega) HB1.out hgs1 ?_))
      intro v' w' ho1 hb1 _
      go_wp2
      go_roundw
      case rel=>
       refine ⟨_,_,HU1.out,by go_num,?_,hb1.out⟩;rw [ints_append,List.length_append]; exact ho1.out
      case measure=>simp [intOf]; omega
  · go_wp2
    go_ret2
    obtain ⟨A,c,hA⟩:=qAL HO.out;subst hA;have hE:=HU.out.end_ hlt;rw [hE.2.2,(rgt_true hE.2.1).2,hE.1];refine ⟨A,_,c,rfl,⟨HO.out,by omega,fun z hz=>?_⟩,HB.out⟩;have:=ints_range HU.out.2.1 z hz;omega
end Go.Proofs.YtmeaiaecmmglnaaGreatDoor
