import Derived.Deep.LoopGhost
import Derived.Deep.CutBlock
import Derived.Test.YtohfadegildnaaaQMG
import Derived.Test.YtohfadegildnaaaQNX3
import Derived.Test.YtohfadegildnaaaQMI
import Derived.Test.YtohfadegildnaaaQMH
import Derived.Test.YtohfadegildnaaaQNX17
import Derived.Test.YtohfadegildnaaaQNX17D
set_option linter.all false
set_option maxRecDepth 100000
set_option linter.unusedVariables false
namespace Go.Proofs.Ytohfadegildnaaa
open Go.RowKit
open Lib (hid)
def Mid11 (w0:World) (g:Nat) (q:NF) (wh:ByteArray) (v tv nv iv:Value) (W:World):Prop:=
 ∃ (A:Option Addr) (m c:Nat) (t:ByteArray),v=.slice A m c∧tv=.string t∧bts t=pln (bts wh)∧t.size≤wh.size∧(spl (bts wh) 0).length=m∧OwnN W (g+2) v (spl (bts wh) 0)∧RX w0 W g (patN q)
set_option maxHeartbeats 16000000 in
theorem num11 (hN:N12):N11:=by
 intro l w W g sc point wh fr me pl HX HN0 hpf hws hfs
 refine Rs.lay ?_
 iterate 312 intro _
 change Code.wp _ _ _ _ _
 conv=>arg 2; dsimp only [qBM,qBC,qC4,qBW,qBN,qBJ,qB9,qB4,qB2,qB8,qB7,qB6,sndS,Try.f14,Option.getD]
 iterate 2 go_step
 go_cut [13,14,15,16] (Mid11 w g { sci:=sc,minExp:=me,plus:=pl } wh)
 case first=>
  clear hN;have hbr:=HX.out.br;have HW0:=hid (Below.refl (g+2) W)
  go_wp2_with fail
  go_loopw [13,14,15,16] (fun v tv nv iv wr=>∃ (i n:Nat) (t:ByteArray) (xs:List Nat),i≤wh.size+1∧iv=.int .i64 (i:Int)∧nv=.int .i64 (n:Int)∧n≤i∧tv=.string t∧bts t=pln ((bts wh).take i)∧t.size≤i∧t.size≤wh.size∧xs.length≤i∧spl (bts wh) 0=xs++splR (bts wh) i n∧(i=wh.size+1→n=0)∧OwnN wr (g+2) v xs∧Below (g+2) W wr) (fun _ _ _ iv _=>wh.size+1 - (intOf iv).toNat)
  case atStart=>exact ⟨0,0,⟨#[]⟩,[],Nat.zero_le _,rfl,rfl,Nat.le_refl _,rfl,rfl,Nat.le_refl _,Nat.zero_le _,Nat.le_refl _,by rw [splR_zero,List.nil_append],fun h=>by omega,ownN_nil _ _,HW0.out⟩
  case round=>
   obtain ⟨i,n,t,xs,hi,rfl,rfl,hni,rfl,ht0,hti,htw,hxl,hsp0,hin,ho0,hb0⟩:=hrel;have HT:=hid ht0;have HSP:=hid hsp0;have HO:=hid ho0;have HB:=hid hb0;have HIN:=hid hin;have hgs:g+2≤wr.heap.size:=Nat.le_trans HX.out.bp.lt hb0.size;clear ht0 hsp0 ho0 hb0 hin
   by_cases hle:i≤wh.size
   · have g1:decide ((i:Int)≤(wh.size:Int))=true:=decide_eq_true (by omega)
     by_cases hlt:i < wh.size
     · have g2:decide ((i:Int) < (wh.size:Int))=true:=decide_eq_true (by omega)
       have HPL:=hid (pln_snoc hlt)
       by_cases hc:wh[i].toNat=44
       · have g3:(((wh[i].toNat:Nat):Int) != 44)=false:=by simp only [bne_eq_false_iff_eq]; omega
         have HS:=hid (splR_comma (n:=n) hlt hc);have HP2:=hid (show bts t=pln ((bts wh).take (i+1)) by rw [HPL.out,if_pos hc,List.append_nil,HT.out]);clear hc HPL
         go_wp2_with (first | go_skip | (at_builtin; go_must (refine qDR rfl (.tmp 136) (.tmp 138) _ rfl Try.underlying73 (g+2) u13 xs rfl HO.out _ rfl n rfl (by omega) HB.out hgs ?_)) | fail)
         intro v' w' ho1 hb1
         go_wp2_with (first | go_skip | fail)
         go_roundw
         case rel=>exact ⟨i+1,0,t,xs++[n],by omega,by go_num,rfl,Nat.zero_le _,rfl,HP2.out,by omega,htw,by rw [List.length_append,List.length_singleton]; omega,by rw [HSP.out,HS.out,List.append_assoc]; rfl,fun _=>rfl,ho1.out,hb1.out⟩
         case measure=>simp [intOf] <;> omega
       · have g3:(((wh[i].toNat:Nat):Int) != 44)=true:=by simp only [bne_iff_ne,ne_eq]; omega
         have HS:=hid (splR_more (n:=n) hlt hc);have hex1:(wh.extract i (i+1)).size=1:=by rw [ByteArray.size_extract]; omega
         have HP2:=hid (show bts (t++wh.extract i (i+1))=pln ((bts wh).take (i+1)) by rw [HPL.out,if_neg hc,qCH,ext1_bts hlt,HT.out]);clear hc HPL
         go_wp2_with (first | go_skip | fail)
         go_roundw
         case rel=>exact ⟨i+1,n+1,_,xs,by omega,by go_num,by go_num,by omega,rfl,HP2.out,by rw [ByteArray.size_append]; omega,by rw [ByteArray.size_append]; omega,by omega,by rw [HSP.out,HS.out],fun h=>by omega,HO.out,HB.out⟩
         case measure=>simp [intOf] <;> omega
     · obtain rfl:i=wh.size:=by omega
       have g2:decide ((wh.size:Int) < (wh.size:Int))=false:=decide_eq_false (by omega);have HS:=hid (splR_end wh n);have HP2:=hid (show bts t=pln ((bts wh).take (wh.size+1)) by rw [HT.out,List.take_of_length_le (by rw [qA0]; exact Nat.le_refl _),List.take_of_length_le (by rw [qA0]; omega)])
       go_wp2_with (first | go_skip | (at_builtin; go_must (refine qDR rfl (.tmp 136) (.tmp 138) _ rfl Try.underlying73 (g+2) u13 xs rfl HO.out _ rfl n rfl (by omega) HB.out hgs ?_)) | fail)
       intro v' w' ho1 hb1
       go_wp2_with (first | go_skip | fail)
       go_roundw
       case rel=>exact ⟨wh.size+1,0,t,xs++[n],by omega,by go_num,rfl,Nat.zero_le _,rfl,HP2.out,by omega,htw,by rw [List.length_append,List.length_singleton]; omega,by rw [HSP.out,HS.out,List.append_assoc]; rfl,fun _=>rfl,ho1.out,hb1.out⟩
       case measure=>simp [intOf] <;> omega
   · obtain rfl:i=wh.size+1:=by omega
     have g1:decide (((wh.size+1:Nat):Int)≤(wh.size:Int))=false:=decide_eq_false (by omega);have g1':decide ((wh.size:Int)+1≤(wh.size:Int))=false:=decide_eq_false (by omega);have HS:=hid (show spl (bts wh) 0=xs by rw [HSP.out,HIN.out rfl,splR_out,List.append_nil]);have HP2:=hid (show bts t=pln (bts wh) by rw [HT.out,List.take_of_length_le (by rw [qA0]; omega)]);obtain ⟨A,c,hA⟩:=HO.out.form;subst hA;clear HIN HSP HT
     go_wp2_with fail
     go_meet
     exact ⟨A,xs.length,c,t,rfl,rfl,HP2.out,htw,by rw [HS.out],by rw [HS.out]; exact HO.out,HX.out.keep HB.out⟩
 case rest=>
 obtain ⟨A,m,c,t,rfl,rfl,hbt,hts,hm,ho,hx⟩:=hcut
 have hm1:1≤m:=by rw [← hm]; exact spl_pos _ _
 have hmx:m≤1000000000:=by have:=spl_len (bts wh) 0; rw [qA0] at this; omega
 go_step
 refine wp_mono (c:=qBX) (hN l w wc g m c A sc point fr t me pl (spl (bts wh) 0) (hid hx) hm hm1 hmx (hid ho) (hid (by rw [HN0.out,hbt])) hpf (by omega) hfs _ ⟨rfl,rfl,rfl,rfl,rfl,rfl,rfl,rfl⟩) ?_
 intro e a w' h
 go_step
 exact h
set_option maxHeartbeats 16000000 in
theorem num10 (hN:N11):N10:=by
 intro l w W g sc point wh fr me pl HX HN0 hpf hws hfs
 refine Rs.lay ?_
 iterate 313 intro _
 change Code.wp _ _ _ _ _
 conv=>arg 2; dsimp only [qBC,qC4,qBW,qBN,qBJ,qB9,qB4,qB2,qB8,qB7,qB6,sndS,Try.f14,Option.getD]
 iterate 2 go_step
 go_cut [15] (VMid W (.int .i64 0))
 case first=>
  clear hN
  go_wp2_with fail
  go_meet
  exact ⟨rfl,rfl⟩
 case rest=>
 obtain ⟨rfl,rfl⟩:=hcut
 go_step
 refine wp_mono (c:=qBM) (hN l w wc g sc point wh fr me pl HX HN0 hpf hws hfs _ ⟨rfl,rfl,rfl,rfl,rfl,rfl,rfl,rfl,rfl,rfl⟩) ?_
 intro e a w' h
 go_step
 exact h
set_option maxHeartbeats 16000000 in
theorem num9 (hN:N10):N9:=by
 intro l w W g sc point wh fr me pl HX HN0 hpf hws hfs
 refine Rs.lay ?_
 iterate 314 intro _
 change Code.wp _ _ _ _ _
 conv=>arg 2; dsimp only [qC4,qBW,qBN,qBJ,qB9,qB4,qB2,qB8,qB7,qB6,sndS,Try.f14,Option.getD]
 iterate 2 go_step
 go_cut [14] (VMid W (.string ⟨#[]⟩))
 case first=>
  clear hN
  go_wp2_with fail
  go_meet
  exact ⟨rfl,rfl⟩
 case rest=>
 obtain ⟨rfl,rfl⟩:=hcut
 go_step
 refine wp_mono (c:=qBC) (hN l w wc g sc point wh fr me pl HX HN0 hpf hws hfs _ ⟨rfl,rfl,rfl,rfl,rfl,rfl,rfl,rfl,rfl⟩) ?_
 intro e a w' h
 go_step
 exact h
set_option maxHeartbeats 16000000 in
theorem num8 (hN:N9):N8:=by
 intro l w W g sc point wh fr me pl HX HN0 hpf hws hfs
 refine Rs.lay ?_
 iterate 315 intro _
 change Code.wp _ _ _ _ _
 conv=>arg 2; dsimp only [qBW,qBN,qBJ,qB9,qB4,qB2,qB8,qB7,qB6,sndS,Try.f14,Option.getD]
 iterate 2 go_step
 go_cut [13] (VMid W (.slice none 0 0))
 case first=>
  clear hN
  go_wp2_with fail
  go_meet
  exact ⟨rfl,rfl⟩
 case rest=>
 obtain ⟨rfl,rfl⟩:=hcut
 go_step
 refine wp_mono (c:=qC4) (hN l w wc g sc point wh fr me pl HX HN0 hpf hws hfs _ ⟨rfl,rfl,rfl,rfl,rfl,rfl,rfl,rfl⟩) ?_
 intro e a w' h
 go_step
 exact h
end Go.Proofs.Ytohfadegildnaaa

set_option linter.all false
set_option maxRecDepth 100000
set_option linter.unusedVariables false
namespace Go.Proofs.Ytohfadegildnaaa
open Go.RowKit
open Lib (hid)
theorem num17:N17:=by
 intro l w W g m c A sc point fr t al me pl sz HX hm HN0 HAL hpf hts hfs has
 refine Rs.lay ?_
 iterate 313 intro _
 change Code.wp _ _ _ _ _
 rcases hA:(bts al).any a64 with _ | _
 · exact num17f l w W g m c A sc point fr t al me pl sz HX hm HN0 HAL hpf hts hfs has hA _ ⟨rfl,rfl,rfl,rfl,rfl,rfl,rfl,rfl,rfl⟩
 · exact num17t l w W g m c A sc point fr t al me pl sz HX hm HN0 HAL hpf hts hfs has hA _ ⟨rfl,rfl,rfl,rfl,rfl,rfl,rfl,rfl,rfl⟩
theorem n3_all:N3:=num3 (num4 (num5 (num6 (num7 (num8 (num9 (num10 (num11 (num12 (num13 (num14 (num15 (num16 num17)))))))))))))
def Mid2 (W:World) (b:List Nat) (wv fv pv:Value) (W':World):Prop:=wv=.string (stz (upA 69 b))∧fv=.string (stz (dnA 69 b))∧pv=.bool (b.any (· == 69))∧∃ n,W'=W.drewN n
set_option maxHeartbeats 16000000 in
theorem refNum_c (s:ByteArray) (w:World) (hs:s.size≤100000000):Calls Try.prog 14 #[.string s] w fun e w'=>
 e=.returned (.tuple #[.agg (patN (numZ (bts s)).1),.int .i64 (((numZ (bts s)).2:Nat):Int)])∧Below w.heap.size w w':=by
 have HX:=hid (RX.new w)
 have hn1:BX ((w.alloc (.cells patZ 26)).alloc (.cells patZ 26)) (w.heap.size+1) patZ 26:=by
  have:=BX.new (w.alloc (.cells patZ 26)) patZ 26
  simpa using this
 go_enter Try.func14,Try.ntmps14
 go_upto_region 2 with (first
  | (refine wpList_store_row rfl 26 _ _ rfl (w.heap.size+1) patZ rfl rfl 26 patZ hn1 (qA3 _ _ _ _ _ {} _ _ _) rfl (qA8 {}) ?_)
  | fail)
 change Code.wp _ _ _ _ (((w.alloc (.cells patZ 26)).alloc (.cells patZ 26)).setRow (w.heap.size+1) patZ)
 generalize ((w.alloc (.cells patZ 26)).alloc (.cells patZ 26)).setRow (w.heap.size+1) patZ=W0 at *
 clear hn1
 dsimp only [Act.put]
 go_cut [5,6,7] (Mid2 W0 (bts s))
 case first=>
  have HC1:=hid (fun W=>refCut_c s 69 W (by omega));generalize hp:(bts s).any (· == 69)=point at *;generalize h1:stz (upA 69 (bts s))=S1 at *;generalize h2:stz (dnA 69 (bts s))=S2 at *;have HP:=hid hp;have HS1:=hid h1;have HS2:=hid h2;clear hp h1 h2
  go_wp2_with (first
   | go_skip
   | (go_at_call 29; refine (HC1.out _).mono ?_; rintro e w1 ⟨rfl,n1,rfl⟩)
   | fail)
  go_meet
  exact ⟨by rw [HS1.out],by rw [HS2.out],by rw [HP.out],_,rfl⟩
 case rest=>
 obtain ⟨rfl,rfl,rfl,n,rfl⟩:=hcut
 have hU:bts (stz (upA 69 (bts s)))=upA 69 (bts s):=qAS (up_lt (qAF s))
 have hD:bts (stz (dnA 69 (bts s)))=dnA 69 (bts s):=qAS (dn_lt (qAF s))
 have l1:(stz (upA 69 (bts s))).size≤100000000:=by rw [qAK]; have:=up_len 69 (bts s); rw [qA0] at this; omega
 have l2:(stz (dnA 69 (bts s))).size≤100000000:=by rw [qAK]; have:=dn_len 69 (bts s); rw [qA0] at this; omega
 go_step
 refine wp_mono (c:=qB2) (n3_all (bts s) w _ w.heap.size _ _ _ (dnA 69 (bts s)) (hid (HX.out.drewN n)) (hid hD) (hid (by rw [hU]; rfl)) l1 l2 _ ⟨rfl,rfl,rfl,rfl,rfl,rfl⟩) ?_
 intro e a w' h
 go_step
 exact h
end Go.Proofs.Ytohfadegildnaaa
