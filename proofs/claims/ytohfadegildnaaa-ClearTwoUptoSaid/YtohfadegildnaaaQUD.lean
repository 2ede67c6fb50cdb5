import Derived.Test.YtohfadegildnaaaQMA
import Derived.Test.YtohfadegildnaaaQNO
import Derived.IntWalk
set_option linter.all false
set_option maxRecDepth 100000
namespace Go.Proofs.Ytohfadegildnaaa
open Go.RowKit
open Lib (hid)
set_option maxHeartbeats 4000000 in
theorem first_1 (s:ByteArray) (w:World) (hs:s.size≤1000000000000000) (hp:0 < s.size) (hhi:(bts s).getD 0 0 < 128) :
 Calls Try.prog 33 #[.string s] w fun e w'=>e=.returned (.tuple #[.int .i32 (fstP (bts s)).1,.int .i64 (fstP (bts s)).2])∧Below w.heap.size w w':=by
 have KL:=hid (klass_1 hhi)
 have hne:s.toList.isEmpty=false:=by rw [qAO]; exact decide_eq_false (by omega)
 have hb0:s[0].toNat=(bts s).getD 0 0:=(qBA s 0 hp).symm
 have LT:=hid (qAF s)
 have LEN:=hid (qA0 s)
 have A1:=hid (show (bts s).getD 0 0 - 0=accL (bts s) 0 1 from rfl)
 generalize hB:(bts s).getD 0 0=b at *
 have HB0:=hid hB
 clear hB
 have i2:(b:Int) < 128:=by omega
 have l192:(b:Int) < 192:=by omega
 have l224:(b:Int) < 224:=by omega
 have l240:(b:Int) < 240:=by omega
 go_enter Try.func33,Try.ntmps33
 · go_wp2
   go_loopw [4,6] (fun nv iv wr=>∃ (i N:Nat),1≤i∧i≤1∧iv=.int .i64 (i:Int)∧nv=.int .i64 (N:Int)∧N=accL (bts s) 0 i∧N < 128 * 64 ^ (i - 1)∧wr=w) (fun _ iv _=>4 - (intOf iv).toNat)
   case atStart=>exact ⟨1,b - 0,by omega,by omega,rfl,by congr 1 <;> omega,A1.out,by simp; omega,rfl⟩
   case round=>
    obtain ⟨i,N,hi1,hi2,rfl,rfl,hN0,hN1,rfl⟩:=hrel;have HN:=hid hN0;have hN2:N < 33554432:=Nat.lt_of_lt_of_le hN1 (by
     have:(64:Nat) ^ (i - 1)≤64 ^ 3:=Nat.pow_le_pow_right (by omega) (by omega);omega)
    have HN1:=hid hN1;clear hN0 hN1
    by_cases hik:i < 1
    · exact absurd hik (by omega)
    · obtain rfl:i=1:=by omega
      have HA:=hid (qGI LT.out (k:=1) (o:=0) (by rw [HB0.out]; exact KL.out) (by omega));rw [← HN.out] at HA;have hnr:N < 2147483648:=by omega
      rcases hz:isC N with _ | _
      · have HV0:=hid (qAB (HA.out.2 (.inl hz)))
        have HZ:=hid (show isZ (N:Int)=false by rw [qBR]; exact hz);clear hz
        go_wp2
        have hw:IntKind.i32.wrap (N:Int)=(N:Int):=IntWalk.i32_in _ (by omega);refine wp_region_held_drew (S:=(fun _=>True)) (by kernel_rfl) (trivial) (fun hHeld=>?_);refine' qt 0 hHeld ?_
        try simp only [pk]
        refine' qt 1 hHeld ?_
        try simp only [pk]
        refine qp 2 fun K hK=>?_;go_simp;refine (qAP (N:Int) _).mono ?_;rintro r w1 ⟨rfl,rfl⟩;rw [HZ.out];have hS:True:=trivial;clear hHeld
        go_wp2_with fail
        refine hK.out _ _ hS (fun hHeld=>?_);clear hK K hS
        try simp only [pk]
        refine' qt 3 hHeld ?_
        try simp only [pk]
        refine' qt 4 hHeld ?_
        try simp only [pk]
        refine qs 5 hHeld ?_
        try simp only [pk]
        refine qs 6 hHeld ?_
        try simp only [pk]
        refine qs 7 hHeld ?_
        try simp only [pk]
        refine qs 8 hHeld ?_
        try simp only [pk]
        refine qs 9 hHeld ?_
        try simp only [pk]
        refine qs 10 hHeld ?_
        try simp only [pk]
        refine qs 11 hHeld ?_
        try simp only [pk]
        refine qs 12 hHeld ?_
        try simp only [pk]
        refine' qt 13 hHeld ?_
        try simp only [pk]
        refine wpAnyH_done (by kernel_rfl) ?_ _;clear hHeld
        go_wp2
        go_ret2
        rw [HV0.out];exact ⟨rfl,(Below.refl _ _).drew⟩
      · have HZ:=hid (show isZ (N:Int)=true by rw [qBR]; exact hz)
        have HCZ:=hid hz;clear hz;have hlk:1≤s.size:=by omega
        go_wp2
        have hw:IntKind.i32.wrap (N:Int)=(N:Int):=IntWalk.i32_in _ (by omega);refine wp_region_held_drew (S:=(fun _=>True)) (by kernel_rfl) (trivial) (fun hHeld=>?_);refine' qt 0 hHeld ?_
        try simp only [pk]
        refine' qt 1 hHeld ?_
        try simp only [pk]
        refine qp 2 fun K hK=>?_;go_simp;refine (qAP (N:Int) _).mono ?_;rintro r w1 ⟨rfl,rfl⟩;rw [HZ.out];have hS:True:=trivial;clear hHeld
        go_wp2_with fail
        refine hK.out _ _ hS (fun hHeld=>?_);clear hK K hS
        try simp only [pk]
        refine' qt 3 hHeld ?_
        try simp only [pk]
        refine' qt 4 hHeld ?_
        try simp only [pk]
        refine' qt 5 hHeld ?_
        try simp only [pk]
        refine' qt 6 hHeld ?_
        try simp only [pk]
        refine' qt 9 hHeld ?_
        try simp only [pk]
        refine' qt 10 hHeld ?_
        try simp only [pk]
        refine' qt 11 hHeld ?_
        try simp only [pk]
        refine qp 7 fun K hK=>?_;go_simp;refine (qBB N _ HCZ.out).mono ?_;rintro r w1 ⟨AB,mB,kB,rfl,hoB,hmB,hbB⟩;have hcv:=qAT hoB (qBS HCZ.out);have HBB:=hid hbB;clear hoB hmB hbB;have hS:True:=trivial;clear hHeld
        go_wp2_with fail
        refine hK.out _ _ hS (fun hHeld=>?_);clear hK K hS
        try simp only [pk]
        refine qp 8 fun K hK=>?_;go_simp;refine hK.out _ _ hHeld (fun hHeld=>?_);clear hK K
        try simp only [pk]
        refine' qt 12 hHeld ?_
        try simp only [pk]
        refine' qt 13 hHeld ?_
        try simp only [pk]
        refine wpAnyH_done (by kernel_rfl) ?_ _;clear hHeld;have hcmp:((stz (encN N)).toList == (s.extract 0 1).toList)=decide (encN N=(bts s).take 1):=by
         rw [qAD,qAS (qBS HCZ.out),qE6]
        generalize ((stz (encN N)).toList == (s.extract 0 1).toList)=B at hcmp ⊢
        rcases B with _ | _
        · have HV1:=hid (qAB (HA.out.2 (.inr (of_decide_eq_false hcmp.symm))))
          clear hcmp
          go_wp2
          go_ret2
          rw [HV1.out];exact ⟨rfl,(Below.refl _ _).drew.trans HBB.out⟩
        · have HV1:=hid (HA.out.1 HCZ.out (of_decide_eq_true hcmp.symm))
          clear hcmp
          go_wp2
          go_ret2
          rw [qCG HV1.out.1,HV1.out.2];exact ⟨rfl,(Below.refl _ _).drew.trans HBB.out⟩
set_option maxHeartbeats 4000000 in
theorem first_2 (s:ByteArray) (w:World) (hs:s.size≤1000000000000000) (hp:0 < s.size) (hlo:192≤(bts s).getD 0 0) (hhi:(bts s).getD 0 0 < 224) :
 Calls Try.prog 33 #[.string s] w fun e w'=>e=.returned (.tuple #[.int .i32 (fstP (bts s)).1,.int .i64 (fstP (bts s)).2])∧Below w.heap.size w w':=by
 have KL:=hid (klass_2 hlo hhi)
 have hne:s.toList.isEmpty=false:=by rw [qAO]; exact decide_eq_false (by omega)
 have hb0:s[0].toNat=(bts s).getD 0 0:=(qBA s 0 hp).symm
 have LT:=hid (qAF s)
 have LEN:=hid (qA0 s)
 have A1:=hid (show (bts s).getD 0 0 - 192=accL (bts s) 192 1 from rfl)
 generalize hB:(bts s).getD 0 0=b at *
 have HB0:=hid hB
 clear hB
 have i1:(192:Int)≤(b:Int):=by omega
 have i2:(b:Int) < 224:=by omega
 have g128:¬ (b:Int) < 128:=by omega
 have g192:¬ (b:Int) < 192:=by omega
 have l240:(b:Int) < 240:=by omega
 go_enter Try.func33,Try.ntmps33
 by_cases hsh:s.size < 2
 · have HV0:=hid (qAB (qFC LT.out (k:=2) (o:=192) (by rw [HB0.out]; exact KL.out) (by rw [LEN.out]; exact hsh)))
   go_wp2
   go_ret2
   rw [HV0.out];exact ⟨rfl,Below.refl _ _⟩
 · go_wp2
   go_loopw [4,6] (fun nv iv wr=>∃ (i N:Nat),1≤i∧i≤2∧iv=.int .i64 (i:Int)∧nv=.int .i64 (N:Int)∧N=accL (bts s) 192 i∧N < 128 * 64 ^ (i - 1)∧wr=w) (fun _ iv _=>4 - (intOf iv).toNat)
   case atStart=>exact ⟨1,b - 192,by omega,by omega,rfl,by congr 1 <;> omega,A1.out,by simp; omega,rfl⟩
   case round=>
    obtain ⟨i,N,hi1,hi2,rfl,rfl,hN0,hN1,rfl⟩:=hrel;have HN:=hid hN0;have hN2:N < 33554432:=Nat.lt_of_lt_of_le hN1 (by
     have:(64:Nat) ^ (i - 1)≤64 ^ 3:=Nat.pow_le_pow_right (by omega) (by omega);omega)
    have HN1:=hid hN1;clear hN0 hN1
    by_cases hik:i < 2
    · have hil:i < s.size:=by omega
      have hbi:s[i].toNat=(bts s).getD i 0:=(qBA s i hil).symm;have hd256:(bts s).getD i 0 < 256:=by rw [← hbi]; exact s[i].toNat_lt
      have HST:=hid (show accL (bts s) 192 (i+1)=accL (bts s) 192 i * 64+((bts s).getD i 0 - 128) by
       obtain ⟨i0,rfl⟩:∃ i0,i=i0+1:=⟨i - 1,by omega⟩;rfl)
      generalize hD:(bts s).getD i 0=d at *;have HD:=hid hD;clear hD
      by_cases hd1:d < 128
      · have HV0:=hid (qAB (qCF LT.out (k:=2) (o:=192) (j:=i) (by rw [HB0.out]; exact KL.out) (by omega) hik (by rw [HD.out]; exact .inl hd1)))
        have j1:(d:Int) < 128:=by omega
        go_wp2
        go_ret2
        rw [HV0.out];exact ⟨rfl,Below.refl _ _⟩
      · have j1:¬ (d:Int) < 128:=by omega
        by_cases hd2:191 < d
        · have HV0:=hid (qAB (qCF LT.out (k:=2) (o:=192) (j:=i) (by rw [HB0.out]; exact KL.out) (by omega) hik (by rw [HD.out]; exact .inr hd2)))
          have j2:(191:Int) < (d:Int):=by omega
          go_wp2
          go_ret2
          rw [HV0.out];exact ⟨rfl,Below.refl _ _⟩
        · have j2:¬ (191:Int) < (d:Int):=by omega
          go_wp2
          go_roundw
          case rel=>
           refine ⟨i+1,N * 64+(d - 128),by omega,by omega,by go_num,by congr 1; omega,by rw [HST.out,← HN.out],?_,trivial⟩;obtain ⟨i0,rfl⟩:∃ i0,i=i0+1:=⟨i - 1,by omega⟩;have e:=HN1.out;simp only [Nat.add_sub_cancel] at e ⊢;rw [Nat.pow_succ];omega
          case measure=>simp [intOf]; omega
    · obtain rfl:i=2:=by omega
      have HA:=hid (qGI LT.out (k:=2) (o:=192) (by rw [HB0.out]; exact KL.out) (by omega));rw [← HN.out] at HA;have hnr:N < 2147483648:=by omega
      rcases hz:isC N with _ | _
      · have HV0:=hid (qAB (HA.out.2 (.inl hz)))
        have HZ:=hid (show isZ (N:Int)=false by rw [qBR]; exact hz);clear hz
        go_wp2
        have hw:IntKind.i32.wrap (N:Int)=(N:Int):=IntWalk.i32_in _ (by omega);refine wp_region_held_drew (S:=(fun _=>True)) (by kernel_rfl) (trivial) (fun hHeld=>?_);refine' qt 0 hHeld ?_
        try simp only [pk]
        refine' qt 1 hHeld ?_
        try simp only [pk]
        refine qp 2 fun K hK=>?_;go_simp;refine (qAP (N:Int) _).mono ?_;rintro r w1 ⟨rfl,rfl⟩;rw [HZ.out];have hS:True:=trivial;clear hHeld
        go_wp2_with fail
        refine hK.out _ _ hS (fun hHeld=>?_);clear hK K hS
        try simp only [pk]
        refine' qt 3 hHeld ?_
        try simp only [pk]
        refine' qt 4 hHeld ?_
        try simp only [pk]
        refine qs 5 hHeld ?_
        try simp only [pk]
        refine qs 6 hHeld ?_
        try simp only [pk]
        refine qs 7 hHeld ?_
        try simp only [pk]
        refine qs 8 hHeld ?_
        try simp only [pk]
        refine qs 9 hHeld ?_
        try simp only [pk]
        refine qs 10 hHeld ?_
        try simp only [pk]
        refine qs 11 hHeld ?_
        try simp only [pk]
        refine qs 12 hHeld ?_
        try simp only [pk]
        refine' qt 13 hHeld ?_
        try simp only [pk]
        refine wpAnyH_done (by kernel_rfl) ?_ _;clear hHeld
        go_wp2
        go_ret2
        rw [HV0.out];exact ⟨rfl,(Below.refl _ _).drew⟩
      · have HZ:=hid (show isZ (N:Int)=true by rw [qBR]; exact hz)
        have HCZ:=hid hz;clear hz;have hlk:2≤s.size:=by omega
        go_wp2
        have hw:IntKind.i32.wrap (N:Int)=(N:Int):=IntWalk.i32_in _ (by omega);refine wp_region_held_drew (S:=(fun _=>True)) (by kernel_rfl) (trivial) (fun hHeld=>?_);refine' qt 0 hHeld ?_
        try simp only [pk]
        refine' qt 1 hHeld ?_
        try simp only [pk]
        refine qp 2 fun K hK=>?_;go_simp;refine (qAP (N:Int) _).mono ?_;rintro r w1 ⟨rfl,rfl⟩;rw [HZ.out];have hS:True:=trivial;clear hHeld
        go_wp2_with fail
        refine hK.out _ _ hS (fun hHeld=>?_);clear hK K hS
        try simp only [pk]
        refine' qt 3 hHeld ?_
        try simp only [pk]
        refine' qt 4 hHeld ?_
        try simp only [pk]
        refine' qt 5 hHeld ?_
        try simp only [pk]
        refine' qt 6 hHeld ?_
        try simp only [pk]
        refine' qt 9 hHeld ?_
        try simp only [pk]
        refine' qt 10 hHeld ?_
        try simp only [pk]
        refine' qt 11 hHeld ?_
        try simp only [pk]
        refine qp 7 fun K hK=>?_;go_simp;refine (qBB N _ HCZ.out).mono ?_;rintro r w1 ⟨AB,mB,kB,rfl,hoB,hmB,hbB⟩;have hcv:=qAT hoB (qBS HCZ.out);have HBB:=hid hbB;clear hoB hmB hbB;have hS:True:=trivial;clear hHeld
        go_wp2_with fail
        refine hK.out _ _ hS (fun hHeld=>?_);clear hK K hS
        try simp only [pk]
        refine qp 8 fun K hK=>?_;go_simp;refine hK.out _ _ hHeld (fun hHeld=>?_);clear hK K
        try simp only [pk]
        refine' qt 12 hHeld ?_
        try simp only [pk]
        refine' qt 13 hHeld ?_
        try simp only [pk]
        refine wpAnyH_done (by kernel_rfl) ?_ _;clear hHeld;have hcmp:((stz (encN N)).toList == (s.extract 0 2).toList)=decide (encN N=(bts s).take 2):=by
         rw [qAD,qAS (qBS HCZ.out),qE6]
        generalize ((stz (encN N)).toList == (s.extract 0 2).toList)=B at hcmp ⊢
        rcases B with _ | _
        · have HV1:=hid (qAB (HA.out.2 (.inr (of_decide_eq_false hcmp.symm))))
          clear hcmp
          go_wp2
          go_ret2
          rw [HV1.out];exact ⟨rfl,(Below.refl _ _).drew.trans HBB.out⟩
        · have HV1:=hid (HA.out.1 HCZ.out (of_decide_eq_true hcmp.symm))
          clear hcmp
          go_wp2
          go_ret2
          rw [qCG HV1.out.1,HV1.out.2];exact ⟨rfl,(Below.refl _ _).drew.trans HBB.out⟩
set_option maxHeartbeats 4000000 in
theorem first_3 (s:ByteArray) (w:World) (hs:s.size≤1000000000000000) (hp:0 < s.size) (hlo:224≤(bts s).getD 0 0) (hhi:(bts s).getD 0 0 < 240) :
 Calls Try.prog 33 #[.string s] w fun e w'=>e=.returned (.tuple #[.int .i32 (fstP (bts s)).1,.int .i64 (fstP (bts s)).2])∧Below w.heap.size w w':=by
 have KL:=hid (klass_3 hlo hhi)
 have hne:s.toList.isEmpty=false:=by rw [qAO]; exact decide_eq_false (by omega)
 have hb0:s[0].toNat=(bts s).getD 0 0:=(qBA s 0 hp).symm
 have LT:=hid (qAF s)
 have LEN:=hid (qA0 s)
 have A1:=hid (show (bts s).getD 0 0 - 224=accL (bts s) 224 1 from rfl)
 generalize hB:(bts s).getD 0 0=b at *
 have HB0:=hid hB
 clear hB
 have i1:(224:Int)≤(b:Int):=by omega
 have i2:(b:Int) < 240:=by omega
 have g128:¬ (b:Int) < 128:=by omega
 have g192:¬ (b:Int) < 192:=by omega
 have g224:¬ (b:Int) < 224:=by omega
 have h192:(192:Int)≤(b:Int):=by omega
 go_enter Try.func33,Try.ntmps33
 by_cases hsh:s.size < 3
 · have HV0:=hid (qAB (qFC LT.out (k:=3) (o:=224) (by rw [HB0.out]; exact KL.out) (by rw [LEN.out]; exact hsh)))
   go_wp2
   go_ret2
   rw [HV0.out];exact ⟨rfl,Below.refl _ _⟩
 · go_wp2
   go_loopw [4,6] (fun nv iv wr=>∃ (i N:Nat),1≤i∧i≤3∧iv=.int .i64 (i:Int)∧nv=.int .i64 (N:Int)∧N=accL (bts s) 224 i∧N < 128 * 64 ^ (i - 1)∧wr=w) (fun _ iv _=>4 - (intOf iv).toNat)
   case atStart=>exact ⟨1,b - 224,by omega,by omega,rfl,by congr 1 <;> omega,A1.out,by simp; omega,rfl⟩
   case round=>
    obtain ⟨i,N,hi1,hi2,rfl,rfl,hN0,hN1,rfl⟩:=hrel;have HN:=hid hN0;have hN2:N < 33554432:=Nat.lt_of_lt_of_le hN1 (by
     have:(64:Nat) ^ (i - 1)≤64 ^ 3:=Nat.pow_le_pow_right (by omega) (by omega);omega)
    have HN1:=hid hN1;clear hN0 hN1
    by_cases hik:i < 3
    · have hil:i < s.size:=by omega
      have hbi:s[i].toNat=(bts s).getD i 0:=(qBA s i hil).symm;have hd256:(bts s).getD i 0 < 256:=by rw [← hbi]; exact s[i].toNat_lt
      have HST:=hid (show accL (bts s) 224 (i+1)=accL (bts s) 224 i * 64+((bts s).getD i 0 - 128) by
       obtain ⟨i0,rfl⟩:∃ i0,i=i0+1:=⟨i - 1,by omega⟩;rfl)
      generalize hD:(bts s).getD i 0=d at *;have HD:=hid hD;clear hD
      by_cases hd1:d < 128
      · have HV0:=hid (qAB (qCF LT.out (k:=3) (o:=224) (j:=i) (by rw [HB0.out]; exact KL.out) (by omega) hik (by rw [HD.out]; exact .inl hd1)))
        have j1:(d:Int) < 128:=by omega
        go_wp2
        go_ret2
        rw [HV0.out];exact ⟨rfl,Below.refl _ _⟩
      · have j1:¬ (d:Int) < 128:=by omega
        by_cases hd2:191 < d
        · have HV0:=hid (qAB (qCF LT.out (k:=3) (o:=224) (j:=i) (by rw [HB0.out]; exact KL.out) (by omega) hik (by rw [HD.out]; exact .inr hd2)))
          have j2:(191:Int) < (d:Int):=by omega
          go_wp2
          go_ret2
          rw [HV0.out];exact ⟨rfl,Below.refl _ _⟩
        · have j2:¬ (191:Int) < (d:Int):=by omega
          go_wp2
          go_roundw
          case rel=>
           refine ⟨i+1,N * 64+(d - 128),by omega,by omega,by go_num,by congr 1; omega,by rw [HST.out,← HN.out],?_,trivial⟩;obtain ⟨i0,rfl⟩:∃ i0,i=i0+1:=⟨i - 1,by omega⟩;have e:=HN1.out;simp only [Nat.add_sub_cancel] at e ⊢;rw [Nat.pow_succ];omega
          case measure=>simp [intOf]; omega
    · obtain rfl:i=3:=by omega
      have HA:=hid (qGI LT.out (k:=3) (o:=224) (by rw [HB0.out]; exact KL.out) (by omega));rw [← HN.out] at HA;have hnr:N < 2147483648:=by omega
      rcases hz:isC N with _ | _
      · have HV0:=hid (qAB (HA.out.2 (.inl hz)))
        have HZ:=hid (show isZ (N:Int)=false by rw [qBR]; exact hz);clear hz
        go_wp2
        have hw:IntKind.i32.wrap (N:Int)=(N:Int):=IntWalk.i32_in _ (by omega);refine wp_region_held_drew (S:=(fun _=>True)) (by kernel_rfl) (trivial) (fun hHeld=>?_);refine' qt 0 hHeld ?_
        try simp only [pk]
        refine' qt 1 hHeld ?_
        try simp only [pk]
        refine qp 2 fun K hK=>?_;go_simp;refine (qAP (N:Int) _).mono ?_;rintro r w1 ⟨rfl,rfl⟩;rw [HZ.out];have hS:True:=trivial;clear hHeld
        go_wp2_with fail
        refine hK.out _ _ hS (fun hHeld=>?_);clear hK K hS
        try simp only [pk]
        refine' qt 3 hHeld ?_
        try simp only [pk]
        refine' qt 4 hHeld ?_
        try simp only [pk]
        refine qs 5 hHeld ?_
        try simp only [pk]
        refine qs 6 hHeld ?_
        try simp only [pk]
        refine qs 7 hHeld ?_
        try simp only [pk]
        refine qs 8 hHeld ?_
        try simp only [pk]
        refine qs 9 hHeld ?_
        try simp only [pk]
        refine qs 10 hHeld ?_
        try simp only [pk]
        refine qs 11 hHeld ?_
        try simp only [pk]
        refine qs 12 hHeld ?_
        try simp only [pk]
        refine' qt 13 hHeld ?_
        try simp only [pk]
        refine wpAnyH_done (by kernel_rfl) ?_ _;clear hHeld
        go_wp2
        go_ret2
        rw [HV0.out];exact ⟨rfl,(Below.refl _ _).drew⟩
      · have HZ:=hid (show isZ (N:Int)=true by rw [qBR]; exact hz)
        have HCZ:=hid hz;clear hz;have hlk:3≤s.size:=by omega
        go_wp2
        have hw:IntKind.i32.wrap (N:Int)=(N:Int):=IntWalk.i32_in _ (by omega);refine wp_region_held_drew (S:=(fun _=>True)) (by kernel_rfl) (trivial) (fun hHeld=>?_);refine' qt 0 hHeld ?_
        try simp only [pk]
        refine' qt 1 hHeld ?_
        try simp only [pk]
        refine qp 2 fun K hK=>?_;go_simp;refine (qAP (N:Int) _).mono ?_;rintro r w1 ⟨rfl,rfl⟩;rw [HZ.out];have hS:True:=trivial;clear hHeld
        go_wp2_with fail
        refine hK.out _ _ hS (fun hHeld=>?_);clear hK K hS
        try simp only [pk]
        refine' qt 3 hHeld ?_
        try simp only [pk]
        refine' qt 4 hHeld ?_
        try simp only [pk]
        refine' qt 5 hHeld ?_
        try simp only [pk]
        refine' qt 6 hHeld ?_
        try simp only [pk]
        refine' qt 9 hHeld ?_
        try simp only [pk]
        refine' qt 10 hHeld ?_
        try simp only [pk]
        refine' qt 11 hHeld ?_
        try simp only [pk]
        refine qp 7 fun K hK=>?_;go_simp;refine (qBB N _ HCZ.out).mono ?_;rintro r w1 ⟨AB,mB,kB,rfl,hoB,hmB,hbB⟩;have hcv:=qAT hoB (qBS HCZ.out);have HBB:=hid hbB;clear hoB hmB hbB;have hS:True:=trivial;clear hHeld
        go_wp2_with fail
        refine hK.out _ _ hS (fun hHeld=>?_);clear hK K hS
        try simp only [pk]
        refine qp 8 fun K hK=>?_;go_simp;refine hK.out _ _ hHeld (fun hHeld=>?_);clear hK K
        try simp only [pk]
        refine' qt 12 hHeld ?_
        try simp only [pk]
        refine' qt 13 hHeld ?_
        try simp only [pk]
        refine wpAnyH_done (by kernel_rfl) ?_ _;clear hHeld;have hcmp:((stz (encN N)).toList == (s.extract 0 3).toList)=decide (encN N=(bts s).take 3):=by
         rw [qAD,qAS (qBS HCZ.out),qE6]
        generalize ((stz (encN N)).toList == (s.extract 0 3).toList)=B at hcmp ⊢
        rcases B with _ | _
        · have HV1:=hid (qAB (HA.out.2 (.inr (of_decide_eq_false hcmp.symm))))
          clear hcmp
          go_wp2
          go_ret2
          rw [HV1.out];exact ⟨rfl,(Below.refl _ _).drew.trans HBB.out⟩
        · have HV1:=hid (HA.out.1 HCZ.out (of_decide_eq_true hcmp.symm))
          clear hcmp
          go_wp2
          go_ret2
          rw [qCG HV1.out.1,HV1.out.2];exact ⟨rfl,(Below.refl _ _).drew.trans HBB.out⟩
set_option maxHeartbeats 4000000 in
theorem first_4 (s:ByteArray) (w:World) (hs:s.size≤1000000000000000) (hp:0 < s.size) (hlo:240≤(bts s).getD 0 0) (hhi:(bts s).getD 0 0 < 248) :
 Calls Try.prog 33 #[.string s] w fun e w'=>e=.returned (.tuple #[.int .i32 (fstP (bts s)).1,.int .i64 (fstP (bts s)).2])∧Below w.heap.size w w':=by
 have KL:=hid (klass_4 hlo hhi)
 have hne:s.toList.isEmpty=false:=by rw [qAO]; exact decide_eq_false (by omega)
 have hb0:s[0].toNat=(bts s).getD 0 0:=(qBA s 0 hp).symm
 have LT:=hid (qAF s)
 have LEN:=hid (qA0 s)
 have A1:=hid (show (bts s).getD 0 0 - 240=accL (bts s) 240 1 from rfl)
 generalize hB:(bts s).getD 0 0=b at *
 have HB0:=hid hB
 clear hB
 have i1:(240:Int)≤(b:Int):=by omega
 have i2:(b:Int) < 248:=by omega
 have g128:¬ (b:Int) < 128:=by omega
 have g192:¬ (b:Int) < 192:=by omega
 have g224:¬ (b:Int) < 224:=by omega
 have g240:¬ (b:Int) < 240:=by omega
 have h192:(192:Int)≤(b:Int):=by omega
 have h224:(224:Int)≤(b:Int):=by omega
 go_enter Try.func33,Try.ntmps33
 by_cases hsh:s.size < 4
 · have HV0:=hid (qAB (qFC LT.out (k:=4) (o:=240) (by rw [HB0.out]; exact KL.out) (by rw [LEN.out]; exact hsh)))
   go_wp2
   go_ret2
   rw [HV0.out];exact ⟨rfl,Below.refl _ _⟩
 · go_wp2
   go_loopw [4,6] (fun nv iv wr=>∃ (i N:Nat),1≤i∧i≤4∧iv=.int .i64 (i:Int)∧nv=.int .i64 (N:Int)∧N=accL (bts s) 240 i∧N < 128 * 64 ^ (i - 1)∧wr=w) (fun _ iv _=>4 - (intOf iv).toNat)
   case atStart=>exact ⟨1,b - 240,by omega,by omega,rfl,by congr 1 <;> omega,A1.out,by simp; omega,rfl⟩
   case round=>
    obtain ⟨i,N,hi1,hi2,rfl,rfl,hN0,hN1,rfl⟩:=hrel;have HN:=hid hN0;have hN2:N < 33554432:=Nat.lt_of_lt_of_le hN1 (by
     have:(64:Nat) ^ (i - 1)≤64 ^ 3:=Nat.pow_le_pow_right (by omega) (by omega);omega)
    have HN1:=hid hN1;clear hN0 hN1
    by_cases hik:i < 4
    · have hil:i < s.size:=by omega
      have hbi:s[i].toNat=(bts s).getD i 0:=(qBA s i hil).symm;have hd256:(bts s).getD i 0 < 256:=by rw [← hbi]; exact s[i].toNat_lt
      have HST:=hid (show accL (bts s) 240 (i+1)=accL (bts s) 240 i * 64+((bts s).getD i 0 - 128) by
       obtain ⟨i0,rfl⟩:∃ i0,i=i0+1:=⟨i - 1,by omega⟩;rfl)
      generalize hD:(bts s).getD i 0=d at *;have HD:=hid hD;clear hD
      by_cases hd1:d < 128
      · have HV0:=hid (qAB (qCF LT.out (k:=4) (o:=240) (j:=i) (by rw [HB0.out]; exact KL.out) (by omega) hik (by rw [HD.out]; exact .inl hd1)))
        have j1:(d:Int) < 128:=by omega
        go_wp2
        go_ret2
        rw [HV0.out];exact ⟨rfl,Below.refl _ _⟩
      · have j1:¬ (d:Int) < 128:=by omega
        by_cases hd2:191 < d
        · have HV0:=hid (qAB (qCF LT.out (k:=4) (o:=240) (j:=i) (by rw [HB0.out]; exact KL.out) (by omega) hik (by rw [HD.out]; exact .inr hd2)))
          have j2:(191:Int) < (d:Int):=by omega
          go_wp2
          go_ret2
          rw [HV0.out];exact ⟨rfl,Below.refl _ _⟩
        · have j2:¬ (191:Int) < (d:Int):=by omega
          go_wp2
          go_roundw
          case rel=>
           refine ⟨i+1,N * 64+(d - 128),by omega,by omega,by go_num,by congr 1; omega,by rw [HST.out,← HN.out],?_,trivial⟩;obtain ⟨i0,rfl⟩:∃ i0,i=i0+1:=⟨i - 1,by omega⟩;have e:=HN1.out;simp only [Nat.add_sub_cancel] at e ⊢;rw [Nat.pow_succ];omega
          case measure=>simp [intOf]; omega
    · obtain rfl:i=4:=by omega
      have HA:=hid (qGI LT.out (k:=4) (o:=240) (by rw [HB0.out]; exact KL.out) (by omega));rw [← HN.out] at HA;have hnr:N < 2147483648:=by omega
      rcases hz:isC N with _ | _
      · have HV0:=hid (qAB (HA.out.2 (.inl hz)))
        have HZ:=hid (show isZ (N:Int)=false by rw [qBR]; exact hz);clear hz
        go_wp2
        have hw:IntKind.i32.wrap (N:Int)=(N:Int):=IntWalk.i32_in _ (by omega);refine wp_region_held_drew (S:=(fun _=>True)) (by kernel_rfl) (trivial) (fun hHeld=>?_);refine' qt 0 hHeld ?_
        try simp only [pk]
        refine' qt 1 hHeld ?_
        try simp only [pk]
        refine qp 2 fun K hK=>?_;go_simp;refine (qAP (N:Int) _).mono ?_;rintro r w1 ⟨rfl,rfl⟩;rw [HZ.out];have hS:True:=trivial;clear hHeld
        go_wp2_with fail
        refine hK.out _ _ hS (fun hHeld=>?_);clear hK K hS
        try simp only [pk]
        refine' qt 3 hHeld ?_
        try simp only [pk]
        refine' qt 4 hHeld ?_
        try simp only [pk]
        refine qs 5 hHeld ?_
        try simp only [pk]
        refine qs 6 hHeld ?_
        try simp only [pk]
        refine qs 7 hHeld ?_
        try simp only [pk]
        refine qs 8 hHeld ?_
        try simp only [pk]
        refine qs 9 hHeld ?_
        try simp only [pk]
        refine qs 10 hHeld ?_
        try simp only [pk]
        refine qs 11 hHeld ?_
        try simp only [pk]
        refine qs 12 hHeld ?_
        try simp only [pk]
        refine' qt 13 hHeld ?_
        try simp only [pk]
        refine wpAnyH_done (by kernel_rfl) ?_ _;clear hHeld
        go_wp2
        go_ret2
        rw [HV0.out];exact ⟨rfl,(Below.refl _ _).drew⟩
      · have HZ:=hid (show isZ (N:Int)=true by rw [qBR]; exact hz)
        have HCZ:=hid hz;clear hz;have hlk:4≤s.size:=by omega
        go_wp2
        have hw:IntKind.i32.wrap (N:Int)=(N:Int):=IntWalk.i32_in _ (by omega);refine wp_region_held_drew (S:=(fun _=>True)) (by kernel_rfl) (trivial) (fun hHeld=>?_);refine' qt 0 hHeld ?_
        try simp only [pk]
        refine' qt 1 hHeld ?_
        try simp only [pk]
        refine qp 2 fun K hK=>?_;go_simp;refine (qAP (N:Int) _).mono ?_;rintro r w1 ⟨rfl,rfl⟩;rw [HZ.out];have hS:True:=trivial;clear hHeld
        go_wp2_with fail
        refine hK.out _ _ hS (fun hHeld=>?_);clear hK K hS
        try simp only [pk]
        refine' qt 3 hHeld ?_
        try simp only [pk]
        refine' qt 4 hHeld ?_
        try simp only [pk]
        refine' qt 5 hHeld ?_
        try simp only [pk]
        refine' qt 6 hHeld ?_
        try simp only [pk]
        refine' qt 9 hHeld ?_
        try simp only [pk]
        refine' qt 10 hHeld ?_
        try simp only [pk]
        refine' qt 11 hHeld ?_
        try simp only [pk]
        refine qp 7 fun K hK=>?_;go_simp;refine (qBB N _ HCZ.out).mono ?_;rintro r w1 ⟨AB,mB,kB,rfl,hoB,hmB,hbB⟩;have hcv:=qAT hoB (qBS HCZ.out);have HBB:=hid hbB;clear hoB hmB hbB;have hS:True:=trivial;clear hHeld
        go_wp2_with fail
        refine hK.out _ _ hS (fun hHeld=>?_);clear hK K hS
        try simp only [pk]
        refine qp 8 fun K hK=>?_;go_simp;refine hK.out _ _ hHeld (fun hHeld=>?_);clear hK K
        try simp only [pk]
        refine' qt 12 hHeld ?_
        try simp only [pk]
        refine' qt 13 hHeld ?_
        try simp only [pk]
        refine wpAnyH_done (by kernel_rfl) ?_ _;clear hHeld;have hcmp:((stz (encN N)).toList == (s.extract 0 4).toList)=decide (encN N=(bts s).take 4):=by
         rw [qAD,qAS (qBS HCZ.out),qE6]
        generalize ((stz (encN N)).toList == (s.extract 0 4).toList)=B at hcmp ⊢
        rcases B with _ | _
        · have HV1:=hid (qAB (HA.out.2 (.inr (of_decide_eq_false hcmp.symm))))
          clear hcmp
          go_wp2
          go_ret2
          rw [HV1.out];exact ⟨rfl,(Below.refl _ _).drew.trans HBB.out⟩
        · have HV1:=hid (HA.out.1 HCZ.out (of_decide_eq_true hcmp.symm))
          clear hcmp
          go_wp2
          go_ret2
          rw [qCG HV1.out.1,HV1.out.2];exact ⟨rfl,(Below.refl _ _).drew.trans HBB.out⟩
end Go.Proofs.Ytohfadegildnaaa
