import Derived.IntWalk
import Derived.Test.YtohfadegildnaaaQUD
import Derived.Test.YtohfadegildnaaaQMA
set_option linter.all false
set_option maxRecDepth 100000
namespace Go.Proofs.Ytohfadegildnaaa
open Go.RowKit
open Lib (hid)
theorem qG7 (s:ByteArray) (w:World) (hs:s.size≤1000000000000000) :
 Calls Try.prog 33 #[.string s] w fun e w'=>e=.returned (.tuple #[.int .i32 (fstP (bts s)).1,.int .i64 (fstP (bts s)).2])∧Below w.heap.size w w':=by
 by_cases he:s.size=0
 · have h0:bts s=[]:=List.eq_nil_of_length_eq_zero (by rw [qA0]; exact he)
   have hem:s.toList.isEmpty=true:=by rw [qAO]; exact decide_eq_true he
   have HV:=hid (show fstP (bts s)=(0,0) by rw [h0,qAB fstN_nil]);clear h0
   go_enter Try.func33,Try.ntmps33
   go_wp2
   go_ret2
   rw [HV.out];exact ⟨rfl,Below.refl _ _⟩
 · have hp:0 < s.size:=by omega
   have hb:(bts s).getD 0 0 < 256:=by rw [qBA s 0 hp]; exact s[0].toNat_lt
   by_cases h1:(bts s).getD 0 0 < 128
   · exact first_1 s w hs hp h1
   by_cases h2:192≤(bts s).getD 0 0
   · by_cases h3:(bts s).getD 0 0 < 224
     · exact first_2 s w hs hp h2 h3
     by_cases h4:(bts s).getD 0 0 < 240
     · exact first_3 s w hs hp (by omega) h4
     by_cases h5:(bts s).getD 0 0 < 248
     · exact first_4 s w hs hp (by omega) h5
     · have HV:=hid (qAB (qHC (qAF s) (klass_0 (.inr (by omega)))))
       have hne:s.toList.isEmpty=false:=by rw [qAO]; exact decide_eq_false he
       have hb0:s[0].toNat=(bts s).getD 0 0:=(qBA s 0 hp).symm;generalize (bts s).getD 0 0=b at *;have g1:¬ (b:Int) < 128:=by omega
       have g2:(192:Int)≤(b:Int):=by omega
       have g3:¬ (b:Int) < 224:=by omega
       have g4:¬ (b:Int) < 240:=by omega
       have g5:¬ (b:Int) < 248:=by omega
       have g6:(240:Int)≤(b:Int):=by omega
       have g7:(224:Int)≤(b:Int):=by omega
       go_enter Try.func33,Try.ntmps33
       go_wp2
       go_ret2
       rw [HV.out];exact ⟨rfl,Below.refl _ _⟩
   · have HV:=hid (qAB (qHC (qAF s) (klass_0 (.inl ⟨by omega,by omega⟩))))
     have hne:s.toList.isEmpty=false:=by rw [qAO]; exact decide_eq_false he
     have hb0:s[0].toNat=(bts s).getD 0 0:=(qBA s 0 hp).symm;generalize (bts s).getD 0 0=b at *;have g1:¬ (b:Int) < 128:=by omega
     have g2:¬ (192:Int)≤(b:Int):=by omega
     have g6:¬ (240:Int)≤(b:Int):=by omega
     have g7:¬ (224:Int)≤(b:Int):=by omega
     go_enter Try.func33,Try.ntmps33
     go_wp2
     go_ret2
     rw [HV.out];exact ⟨rfl,Below.refl _ _⟩
set_option maxHeartbeats 1000000 in
theorem qEO (s:ByteArray) (w:World) (hs:s.size≤10000000000):Calls Try.prog 19 #[.string s] w fun e w'=>
 ∃ A m c,e=.returned (.tuple #[.slice A m c,.int .i64 (badZ (bts s))])∧OwnR w' w.heap.size A m c (ints (pts (bts s)))∧Below w.heap.size w w':=by
 generalize hg:w.heap.size=g at *
 have Hg:=hid hg
 clear hg
 have B0:=hid (show Below g w w by rw [← Hg.out]; exact Below.refl _ _)
 go_enter Try.func19,Try.ntmps19
 go_wp2
 go_loopw [4,5,6,7] (fun v pv _ _ wr=>∃ (p:Nat) (cs:List Nat),Upto s p cs∧pv=.int .i64 (p:Int)∧wr.ownsRow g 21 1 v cs.length (i32s (ints cs))∧Below g w wr) (fun _ pv _ _ _=>s.size - (intOf pv).toNat)
 case atStart=>exact ⟨0,[],Upto.zero s,rfl,World.ownsRow_nil _ _ _ _,B0.out⟩
 case round=>
  obtain ⟨p,cs,hu0,rfl,ho0,hb0⟩:=hrel;have HU:=hid hu0;have HO:=hid ho0;have HB:=hid hb0;have hple:=hu0.1;have hcl:=hu0.count;have hgs:g≤wr.heap.size:=by have:=hb0.size; have:=Hg.out; omega
  clear hu0 ho0 hb0
  by_cases hlt:p < s.size
  · have hez:(s.extract p s.size).size≤1000000000000000:=by rw [ByteArray.size_extract]; omega
    have HC:=hid (qG7 (s.extract p s.size) wr hez);rw [qDL] at HC
    rcases hf:fstN ((bts s).drop p) with _ | c
    · rw [qAB hf] at HC
      have HF:=hid hf;clear hf
      go_wp2_with fail
      refine HC.out.mono ?_;rintro e w1 ⟨rfl,hb⟩;have HB1:=hid (HB.out.trans (hb.mono hgs));clear hb HC
      go_wp2
      go_ret2
      obtain ⟨_,hne,hbad⟩:=HU.out.here hlt HF.out;rw [hbad,(rgt_false hne).2];exact ⟨_,_,_,rfl,ownR_nil _ _,HB1.out⟩
    · obtain ⟨hc,hu1,_,hw1⟩:=HU.out.step hf
      rw [qCG hf] at HC;have HU1:=hid hu1;have hple1:=hu1.1;have hcle:=qD3 hc;clear hu1 hf;have hnz:¬ ((encN c).length:Int)=0:=by omega
      generalize hL:(encN c).length=L at *
      go_wp2_with fail
      refine HC.out.mono ?_;rintro e w1 ⟨rfl,hb⟩;have HB1:=hid (HB.out.trans (hb.mono hgs));have HO1:=hid (own_kept HO.out hb rfl);have hgs1:g≤w1.heap.size:=by have:=hb.size; omega
      clear hb HC
      go_wp2_with (at_builtin; go_must (refine qDQ rfl (.tmp 22) (.tmp 24) _ rfl Try.underlying39 g u4 cs.length _ rfl HO1.out _ rfl (c:Int) rfl (by omega) HB1.out hgs1 ?_))
      intro v' w' ho1 hb1 _
      go_wp2
      go_roundw
      case rel=>
       refine ⟨_,_,HU1.out,by go_num,?_,hb1.out⟩;rw [qFD,List.length_append]; exact ho1.out
      case measure=>simp [intOf]; omega
  · go_wp2
    go_ret2
    obtain ⟨A,c,hA⟩:=qAN HO.out;subst hA;have hE:=HU.out.end_ hlt;rw [hE.2.2,(qGJ hE.2.1).2,hE.1];refine ⟨A,_,c,rfl,⟨HO.out,by omega,fun z hz=>?_⟩,HB.out⟩;have:=ints_range HU.out.2.1 z hz;omega
end Go.Proofs.Ytohfadegildnaaa

set_option linter.all false
set_option maxRecDepth 100000
namespace Go.Proofs.Ytohfadegildnaaa
open Go.RowKit
open Lib (hid)
set_option maxHeartbeats 400000 in
theorem digitGood_c (z:Int) (w:World) (h : -2147483648≤z∧z≤2147483647):Calls Try.prog 46 #[.int .i32 z] w fun e w'=>e=.returned (.bool (sysZ z))∧w=w':=by
 go_enter Try.func46,Try.ntmps46
 go_wp2
 go_loopw [4] (fun i wr=>∃ k:Nat,k≤10∧i=.int .i32 (k:Int)∧wr=w∧∀ j:Nat,j < k→isZ (z+(j:Int))=true) (fun i _=>10 - (intOf i).toNat)
 case atStart=>exact ⟨0,by omega,rfl,rfl,fun j hj=>absurd hj (by omega)⟩
 case round=>
  obtain ⟨k,hk,rfl,rfl,ha0⟩:=hrel
  by_cases hlt:k < 10
  · have hb : -2147483648≤z+(k:Int)∧z+(k:Int)≤2147483647:=by
     rcases Nat.eq_zero_or_pos k with hz | hp
     · subst hz; omega
     · have:=qAQ.1 (ha0 (k - 1) (by omega)); omega
    have hw:IntKind.i32.wrap (z+(k:Int))=z+(k:Int):=IntWalk.i32_in _ (by omega);have HA:=hid ha0;clear ha0
    go_wp2_with fail
    refine (qDY (z+(k:Int)) _).mono ?_;rintro e w' ⟨rfl,rfl⟩
    rcases hzk:isZ (z+(k:Int)) with _ | _
    · have HN:=hid (sysZ_no hlt hzk)
      clear hzk
      go_wp2
      go_ret
      rw [HN.out];exact ⟨rfl,rfl⟩
    · have HY:=hid hzk
      clear hzk
      go_wp2
      go_roundw
      case rel=>
       refine ⟨k+1,by omega,by go_num,trivial,fun j hj=>?_⟩
       rcases Nat.lt_or_ge j k with hjk | hjk
       · exact HA.out j hjk
       · obtain rfl:j=k:=by omega
         exact HY.out
      case measure=>simp [intOf]; omega
  · have HS:=hid (sysZ_all (z:=z) fun j hj=>ha0 j (by omega))
    clear ha0;obtain rfl:k=10:=by omega
    go_wp2
    go_ret
    rw [HS.out];exact ⟨rfl,rfl⟩
set_option maxHeartbeats 400000 in
theorem digitIs_c (z r:Int) (w:World) (h : -2147483648≤z∧z≤2147483647) (h' : -2147483648≤r∧r≤2147483647):Calls Try.prog 25 #[.int .i32 z,.int .i32 r] w fun e w'=>e=.returned (.bool (isB z r))∧w=w':=by
 have C:=hid (digitGood_c z w h)
 rcases hs:sysZ z with _ | _
 · have e:isB z r=false:=by rw [isB,hs]; rfl
   rw [e];rw [hs] at C;clear hs e
   go_enter Try.func25,Try.ntmps25
   go_wp2_with fail
   refine C.out.mono ?_;rintro e w' ⟨rfl,rfl⟩
   go_wp2
   go_ret
   exact ⟨rfl,rfl⟩
 · have hz:=(qBP.1 hs).1
   rw [hs] at C
   by_cases h1:z≤r
   · have hw:IntKind.i32.wrap (r - z)=r - z:=IntWalk.i32_in _ (by omega)
     by_cases h2:r < z+10
     · have e:isB z r=true:=by rw [isB,hs,decide_eq_true h1,decide_eq_true h2]; rfl
       have h3:r - z < 10:=by omega
       rw [e];clear hs e
       go_enter Try.func25,Try.ntmps25
       go_wp2_with fail
       refine C.out.mono ?_;rintro e w' ⟨rfl,rfl⟩
       go_wp2
       go_ret
       exact ⟨rfl,rfl⟩
     · have e:isB z r=false:=by rw [isB,hs,decide_eq_false h2,Bool.and_false]; rfl
       have h3:¬ r - z < 10:=by omega
       rw [e];clear hs e
       go_enter Try.func25,Try.ntmps25
       go_wp2_with fail
       refine C.out.mono ?_;rintro e w' ⟨rfl,rfl⟩
       go_wp2
       go_ret
       exact ⟨qA5 (decide_eq_false (by omega)),rfl⟩
   · have e:isB z r=false:=by rw [isB,hs,decide_eq_false h1]; rfl
     rw [e];clear hs e
     go_enter Try.func25,Try.ntmps25
     go_wp2_with fail
     refine C.out.mono ?_;rintro e w' ⟨rfl,rfl⟩
     go_wp2
     go_ret
     exact ⟨rfl,rfl⟩
theorem qHT (Z c:Nat) (w:World) (hZ:sysZ (Z:Int)=true) (hc:c≤1114111):Calls Try.prog 25 #[.int .i32 (Z:Int),.int .i32 (c:Int)] w fun e w'=>e=.returned (.bool (inS Z c))∧w=w':=by
 have h1:=qBP.1 hZ
 have h:=digitIs_c (Z:Int) (c:Int) w (by omega) (by omega)
 rwa [isB_nat hZ] at h
end Go.Proofs.Ytohfadegildnaaa

set_option linter.all false
set_option maxRecDepth 100000
namespace Go.Proofs.Ytohfadegildnaaa
open Go.RowKit
open Lib (hid)
set_option maxHeartbeats 400000 in
theorem refZero_c (z:Int) (w:World) (h : -2147483648≤z∧z≤2147483647):Calls Try.prog 20 #[.int .i32 z] w fun e w'=>e=.returned (.bool (sysZ z))∧w=w':=by
 by_cases hz:1114102 < z
 · have HS:=hid (show sysZ z=false by rw [sysZ]; exact decide_eq_false (by omega))
   go_enter Try.func20,Try.ntmps20
   go_wp2
   go_loopw [3] (fun i wr=>i=.int .i32 0∧wr=w) (fun _ _=>0)
   case atStart=>exact ⟨rfl,rfl⟩
   case round=>
    obtain ⟨rfl,rfl⟩:=hrel
    go_wp2
    go_ret
    rw [HS.out];exact ⟨rfl,rfl⟩
 go_enter Try.func20,Try.ntmps20
 go_wp2
 go_loopw [3] (fun i wr=>∃ k:Nat,k≤10∧i=.int .i32 (k:Int)∧wr=w∧∀ j:Nat,j < k→isZ (z+(j:Int))=true) (fun i _=>10 - (intOf i).toNat)
 case atStart=>exact ⟨0,by omega,rfl,rfl,fun j hj=>absurd hj (by omega)⟩
 case round=>
  obtain ⟨k,hk,rfl,rfl,ha0⟩:=hrel
  by_cases hlt:k < 10
  · have hw:IntKind.i32.wrap (z+(k:Int))=z+(k:Int):=IntWalk.i32_in _ (by omega)
    have hw2:IntKind.i32.wrap ((k:Int)+1)=((k+1:Nat):Int):=by rw [IntWalk.i32_in _ (by omega)]; rfl
    have HA:=hid ha0;clear ha0
    go_wp2_with fail
    refine (qAP (z+(k:Int)) _).mono ?_;rintro e w' ⟨rfl,rfl⟩
    rcases hzk:isZ (z+(k:Int)) with _ | _
    · have HN:=hid (sysZ_no hlt hzk)
      clear hzk
      go_wp2
      go_ret
      rw [HN.out];exact ⟨rfl,rfl⟩
    · have HY:=hid hzk
      clear hzk
      go_wp2
      go_roundw
      case rel=>
       refine ⟨k+1,by omega,by go_num,trivial,fun j hj=>?_⟩
       rcases Nat.lt_or_ge j k with hjk | hjk
       · exact HA.out j hjk
       · obtain rfl:j=k:=by omega
         exact HY.out
      case measure=>simp [intOf]; omega
  · have HS:=hid (sysZ_all (z:=z) fun j hj=>ha0 j (by omega))
    clear ha0;obtain rfl:k=10:=by omega
    go_wp2
    go_ret
    rw [HS.out];exact ⟨rfl,rfl⟩
end Go.Proofs.Ytohfadegildnaaa
