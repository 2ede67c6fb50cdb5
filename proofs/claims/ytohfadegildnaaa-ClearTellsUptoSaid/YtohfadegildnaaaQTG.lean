import Derived.Test.YtohfadegildnaaaQMB
import Derived.Test.YtohfadegildnaaaQUI
set_option linter.all false
set_option maxRecDepth 100000
namespace Go.Proofs.Ytohfadegildnaaa
open Go.RowKit
open Lib (hid)
theorem encs_first {d:Nat} {cs:List Nat}:∃ b l,encs (d :: cs)=b :: l∧(b=39↔d=39):=by
 rw [qAC]
 rcases qAU d with ⟨_,e⟩ | ⟨_,_,e⟩ | ⟨_,_,e⟩ | ⟨_,e⟩ <;> rw [e]
 · exact ⟨d,encs cs,rfl,Iff.rfl⟩
 all_goals exact ⟨_,_,rfl,by omega⟩
theorem Rem.byte {s:ByteArray} {p:Nat} {d:Nat} {cs:List Nat} (h:Rem s p (d :: cs)):∃ hp:p < s.size,(s[p].toNat=39↔d=39):=by
 refine ⟨h.some.2.2.2.1,?_⟩
 obtain ⟨b,l,e,hb⟩:=encs_first (d:=d) (cs:=cs)
 rw [← hb]
 have h1:=h.2.1
 rw [e] at h1
 have h2:=qBA s p h.some.2.2.2.1
 have h3:(bts s).getD p 0=b:=by
  have:((bts s).drop p)[0]? = Option.some b:=by rw [h1]; rfl
  rw [List.getElem?_drop,Nat.add_zero] at this;rw [List.getD,this,Option.getD_some]
 rw [← h2,h3]
set_option maxHeartbeats 2000000 in
theorem refScan_c (s:ByteArray) (w:World) (hs:s.size≤10000000000):Calls Try.prog 15 #[.string s] w fun e w'=>
 ∃ A m c,e=.returned (.tuple #[.slice A m c,.agg #[.int .i64 (toks (bts s)).2.1,.int .i64 (toks (bts s)).2.2]])∧Hid (OwnT w' w.heap.size A m c (toks (bts s)).1)∧Hid (Below w.heap.size w w'):=by
 generalize hg:w.heap.size=g at *
 have Hg:=hid hg
 clear hg
 have hgl:g≤w.heap.size:=by rw [Hg.out]; exact Nat.le_refl _
 have FB0:=FB.new w (.int .i64 0) (.int .i64 0)
 rw [Hg.out] at FB0
 have BW:=hid ((Below.refl g w).alloc hgl (.cells #[.int .i64 0,.int .i64 0] 29))
 generalize hW0:w.alloc (.cells #[.int .i64 0,.int .i64 0] 29)=W0 at *
 have hs0:W0.heap.size=g+1:=by rw [← hW0,World.size_alloc,Hg.out]
 have HW0:=hid hW0
 clear hW0
 go_enter Try.func15,Try.ntmps15
 go_wp2_with fail
 rw [HW0.out]
 refine (qEO s W0 (by omega)).mono ?_
 rintro e w1 ⟨A0,m0,c0,rfl,_,hb1⟩
 rw [hs0] at hb1
 have FB1:=FB0.below hb1 (Nat.lt_succ_self g)
 have B1:=hid (BW.out.trans (hb1.mono (Nat.le_succ g)))
 have hs1:g+1≤w1.heap.size:=by have:=hb1.size; omega
 clear hb1 FB0 BW
 rw [Hg.out]
 by_cases hr:rst (bts s)=[]
 · rw [qG2 hr]
   have R0:=hid (Rem.zero hr);have hT:toks (bts s)=if 0≤(scn (cps (bts s)) 0 (-1)).2 then ([],3,(scn (cps (bts s)) 0 (-1)).2) else if 400 < (scn (cps (bts s)) 0 (-1)).1.length then ([],8,0) else ((scn (cps (bts s)) 0 (-1)).1,0,0):=by
    rw [toks,if_neg (by simp [hr])]
   have HR32:=hid (scn_isZ R0.out.2.2 0 (-1));generalize hF:scn (cps (bts s)) 0 (-1)=F at hT HR32;have S0:=hid (show F=([]++(scn (cps (bts s)) 0 (-1)).1,(scn (cps (bts s)) 0 (-1)).2) by rw [List.nil_append]; exact hF.symm);clear hF;generalize cps (bts s)=cs0 at *;have HT:=hid hT;clear hr hT;generalize hq1:w1.heap.size=q at *;have Hq:=hid hq1;have BQ:=hid (Below.refl q w1);clear hq1
   go_wp2
   go_loopw [6,7,8] (fun v ov pv wr=>∃ (p:Nat) (cs:List Nat) (L:List Tok) (o:Int),Rem s p cs∧F=(L++(scn cs p o).1,(scn cs p o).2)∧ov=.int .i64 o∧pv=.int .i64 (p:Int)∧L.length≤p ∧
    wr.ownsRow q 48 3 v L.length (qC7 L)∧Below q w1 wr) (fun _ _ pv _=>s.size - (intOf pv).toNat)
   case atStart=>exact ⟨0,cs0,[],-1,R0.out,S0.out,rfl,rfl,Nat.le_refl _,World.ownsRow_nil _ _ _ _,BQ.out⟩
   case round=>
    obtain ⟨p,cs,L,o,hr0,hF0,rfl,rfl,hLp,ho0,hb0⟩:=hrel;have HR:=hid hr0;have HF:=hid hF0;have HO:=hid ho0;have HB:=hid hb0;have hple:=hr0.1;have hqs:q≤wr.heap.size:=by have:=hb0.size; have:=Hq.out; omega
    have FB3:=FB1.below hb0 (by omega);clear hr0 hF0 ho0 hb0
    cases cs with
    | nil=>
     have hlt:=HR.out.none;have hF:=HF.out;rw [scn_nil,List.append_nil] at hF;subst hF;obtain ⟨A7,c7,hA⟩:=qAN HO.out;subst hA
     by_cases ho:0≤o
     · have HT1:=hid (show toks (bts s)=([],3,o) by rw [HT.out,if_pos ho])
       have hdo:decide (0≤o)=true:=decide_eq_true ho;have f0:=FB3.c0;have f1:=FB3.c1;have f2:=FB3.fr 0;have f3:=FB3.fr 1;have FE:=FB3.set (.int .i64 3) (.int .i64 o);have e0:=FE.c0;have e1:=FE.c1;have BE:=hid (Below.set2 (B1.out.trans (HB.out.mono (by omega))) (Nat.le_refl g) (.int .i64 3) (.int .i64 o));have OE:=hid (qF2 ((wr.setCell ⟨g,0,none⟩ (.int .i64 3)).setCell ⟨g,1,none⟩ (.int .i64 o)) g);clear FE FB3
       go_wp2
       generalize hWE:(wr.setCell ⟨g,0,none⟩ (.int .i64 3)).setCell ⟨g,1,none⟩ (.int .i64 o)=WE at *;rw [HT1.out];exact bodyPost_ret (v:=.tuple #[.slice none 0 0,.agg #[(.int .i64 3),(.int .i64 o)]]) (by simp [results,Try.results15,go_sem,e0,e1]) rfl ⟨_,_,_,rfl,OE,BE⟩
     · have hdo:decide (0≤o)=false:=decide_eq_false ho
       by_cases hm:400 < L.length
       · have HT1:=hid (show toks (bts s)=([],8,0) by rw [HT.out,if_neg ho,if_pos hm])
         have hdm:decide ((400:Int) < (L.length:Int))=true:=decide_eq_true (by omega);have f0:=FB3.c0;have f1:=FB3.c1;have f2:=FB3.fr 0;have f3:=FB3.fr 1;have FE:=FB3.set (.int .i64 8) (.int .i64 0);have e0:=FE.c0;have e1:=FE.c1;have BE:=hid (Below.set2 (B1.out.trans (HB.out.mono (by omega))) (Nat.le_refl g) (.int .i64 8) (.int .i64 0));have OE:=hid (qF2 ((wr.setCell ⟨g,0,none⟩ (.int .i64 8)).setCell ⟨g,1,none⟩ (.int .i64 0)) g);clear FE FB3
         go_wp2
         generalize hWE:(wr.setCell ⟨g,0,none⟩ (.int .i64 8)).setCell ⟨g,1,none⟩ (.int .i64 0)=WE at *;rw [HT1.out];exact bodyPost_ret (v:=.tuple #[.slice none 0 0,.agg #[(.int .i64 8),(.int .i64 0)]]) (by simp [results,Try.results15,go_sem,e0,e1]) rfl ⟨_,_,_,rfl,OE,BE⟩
       · have HT1:=hid (show toks (bts s)=(L,0,0) by rw [HT.out,if_neg ho,if_neg hm])
         have hdm:decide ((400:Int) < (L.length:Int))=false:=decide_eq_false (by omega);have f0:=FB3.c0;have f1:=FB3.c1;have f2:=FB3.fr 0;have f3:=FB3.fr 1;have FE:=FB3.set (.int .i64 0) (.int .i64 0);have e0:=FE.c0;have e1:=FE.c1;have BE:=hid (Below.set2 (B1.out.trans (HB.out.mono (by omega))) (Nat.le_refl g) (.int .i64 0) (.int .i64 0));have OE:=hid (show OwnT ((wr.setCell ⟨g,0,none⟩ (.int .i64 0)).setCell ⟨g,1,none⟩ (.int .i64 0)) g A7 L.length c7 L from
          ⟨qEG (qB0 (qB0 HO.out (p:=⟨g,0,none⟩) hs1 _) (p:=⟨g,1,none⟩) hs1 _) (Nat.le_of_succ_le hs1),by omega,HR32.out⟩)
         clear FE FB3
         go_wp2
         generalize hWE:(wr.setCell ⟨g,0,none⟩ (.int .i64 0)).setCell ⟨g,1,none⟩ (.int .i64 0)=WE at *;rw [HT1.out];exact bodyPost_ret (v:=.tuple #[.slice A7 L.length c7,.agg #[(.int .i64 0),(.int .i64 0)]]) (by simp [results,Try.results15,go_sem,e0,e1]) rfl ⟨_,_,_,rfl,OE,BE⟩
    | cons c cs=>
     obtain ⟨hc,hr1,_,hlt,hl1⟩:=HR.out.some;have HR1:=hid hr1;have hcle:=qD3 hc;have hez:(s.extract p s.size).size≤1000000000000000:=by rw [ByteArray.size_extract]; omega
     have HC:=hid (qG7 (s.extract p s.size) wr hez);rw [qDL,HR.out.2.1,qAC,qCG (qGE hc _)] at HC;have hple1:=hr1.1;clear hr1 FB3
     by_cases hc39:c=39
     · subst hc39
       have hL:(encN 39).length=1:=rfl;rw [hL] at HR1 HC hple1;clear hL;rw [show ((39:Nat):Int)=39 from rfl,show ((1:Nat):Int)=1 from rfl] at HC
       cases cs with
       | nil=>
        have hns:=HR1.out.none
        go_wp2_with fail
        refine HC.out.mono ?_;rintro e w2 ⟨rfl,hb⟩;have HB1:=hid (HB.out.trans (hb.mono hqs));have HO1:=hid (qD6 HO.out hb rfl);clear hb HC;have hF1:=HF.out;rw [qFF (by simp)] at hF1
        by_cases ho:0≤o
        · have hdo:decide (0≤o)=true:=decide_eq_true ho
          rw [if_neg (by omega)] at hF1;have HF1:=hid hF1;clear hF1
          go_wp2
          go_roundw
          case rel=>exact ⟨p+1,[],L,-1,HR1.out,HF1.out,rfl,by go_num,by omega,HO1.out,HB1.out⟩
          case measure=>simp [intOf]; omega
        · have hdo:decide (0≤o)=false:=decide_eq_false ho
          rw [if_pos (by omega)] at hF1;have HF1:=hid hF1;clear hF1
          go_wp2
          go_roundw
          case rel=>exact ⟨p+1,[],L,(p:Int),HR1.out,HF1.out,rfl,by go_num,by omega,HO1.out,HB1.out⟩
          case measure=>simp [intOf]; omega
       | cons d cs=>
        obtain ⟨hp1,hby⟩:=HR1.out.byte
        by_cases hd:d=39
        · have hbb:=hby.2 hd
          subst hd;have HR2:=hid HR1.out.some.2.1;rw [show (encN 39).length=1 from rfl] at HR2;have hple2:=HR2.out.1;have HF1:=hid (show F=((L++[(39,true,(p:Int))])++(scn cs (p+1+1) o).1,(scn cs (p+1+1) o).2) by rw [HF.out,qGL,List.append_assoc]; rfl)
          go_wp2_with fail
          refine HC.out.mono ?_;rintro e w2 ⟨rfl,hb⟩;have HB1:=hid (HB.out.trans (hb.mono hqs));have HO1:=hid (qD6 HO.out hb rfl);have hqs1:q≤w2.heap.size:=by have:=hb.size; omega
          clear hb HC hby
          go_wp2_with (at_builtin; go_must (refine qAY rfl (.tmp 47) (.tmp 51) _ rfl Try.underlying43 q u6 L.length L rfl HO1.out (39,true,(p:Int)) rfl _ _ _ rfl (by omega) HB1.out hqs1 ?_))
          intro v' w' ho2 hb2 _
          go_wp2
          go_roundw
          case rel=>
           refine ⟨p+1+1,_,L++[(39,true,(p:Int))],o,HR2.out,HF1.out,rfl,by go_num,?_,?_,hb2.out⟩
           · rw [List.length_append,List.length_singleton]; omega
           · rw [List.length_append,List.length_singleton]; simpa [qD5] using ho2.out
          case measure=>simp [intOf]; omega
        · have hnb:((s[p+1].toNat:Int) == 39)=false:=by
           have:=fun h=>hd (hby.1 h)
           simp; omega
          have hF1:=HF.out;rw [qFF (by simp [hd])] at hF1
          go_wp2_with fail
          refine HC.out.mono ?_;rintro e w2 ⟨rfl,hb⟩;have HB1:=hid (HB.out.trans (hb.mono hqs));have HO1:=hid (qD6 HO.out hb rfl);clear hb HC hby
          by_cases ho:0≤o
          · have hdo:decide (0≤o)=true:=decide_eq_true ho
            rw [if_neg (by omega)] at hF1;have HF1:=hid hF1;clear hF1
            go_wp2
            go_roundw
            case rel=>exact ⟨p+1,_,L,-1,HR1.out,HF1.out,rfl,by go_num,by omega,HO1.out,HB1.out⟩
            case measure=>simp [intOf]; omega
          · have hdo:decide (0≤o)=false:=decide_eq_false ho
            rw [if_pos (by omega)] at hF1;have HF1:=hid hF1;clear hF1
            go_wp2
            go_roundw
            case rel=>exact ⟨p+1,_,L,(p:Int),HR1.out,HF1.out,rfl,by go_num,by omega,HO1.out,HB1.out⟩
            case measure=>simp [intOf]; omega
     · have hb39:((c:Int) == 39)=false:=by simp; omega
       have HF1:=hid (show F=((L++[((c:Int),decide (0≤o),(p:Int))])++(scn cs (p+(encN c).length) o).1,(scn cs (p+(encN c).length) o).2) by rw [HF.out,qF1 hc39,List.append_assoc]; rfl);generalize (encN c).length=LC at *
       go_wp2_with fail
       refine HC.out.mono ?_;rintro e w2 ⟨rfl,hb⟩;have HB1:=hid (HB.out.trans (hb.mono hqs));have HO1:=hid (qD6 HO.out hb rfl);have hqs1:q≤w2.heap.size:=by have:=hb.size; omega
       clear hb HC
       go_wp2_with (at_builtin; go_must (refine qAY rfl (.tmp 60) (.tmp 66) _ rfl Try.underlying43 q u6 L.length L rfl HO1.out ((c:Int),decide (0≤o),(p:Int)) rfl _ _ _ rfl (by omega) HB1.out hqs1 ?_))
       intro v' w' ho2 hb2 _
       go_wp2
       go_roundw
       case rel=>
        refine ⟨p+LC,_,L++[((c:Int),decide (0≤o),(p:Int))],o,HR1.out,HF1.out,rfl,by go_num,?_,?_,hb2.out⟩
        · rw [List.length_append,List.length_singleton]; omega
        · rw [List.length_append,List.length_singleton]; simpa [qD5] using ho2.out
       case measure=>simp [intOf]; omega
 · have hz:0≤badZ (bts s):=by
    rcases Int.lt_or_le (badZ (bts s)) 0 with h | h
    · exact absurd (qF0.1 h) hr
    · exact h
   have HT:=hid (show toks (bts s)=([],2,badZ (bts s)) by rw [toks,if_pos hr]);generalize badZ (bts s)=Z at *;clear hr;have f0:=FB1.c0;have f1:=FB1.c1;have f2:=FB1.fr 0;have f3:=FB1.fr 1;have FE:=FB1.set (.int .i64 2) (.int .i64 Z);have e0:=FE.c0;have e1:=FE.c1;have BE:=hid (Below.set2 B1.out (Nat.le_refl g) (.int .i64 2) (.int .i64 Z));have OE:=hid (qF2 ((w1.setCell ⟨g,0,none⟩ (.int .i64 2)).setCell ⟨g,1,none⟩ (.int .i64 Z)) g);clear FE FB1
   go_wp2
   generalize hWE:(w1.setCell ⟨g,0,none⟩ (.int .i64 2)).setCell ⟨g,1,none⟩ (.int .i64 Z)=WE at *;rw [HT.out];exact bodyPost_ret (v:=.tuple #[.slice none 0 0,.agg #[(.int .i64 2),(.int .i64 Z)]]) (by simp [results,Try.results15,go_sem,e0,e1]) rfl ⟨_,_,_,rfl,OE,BE⟩
end Go.Proofs.Ytohfadegildnaaa
