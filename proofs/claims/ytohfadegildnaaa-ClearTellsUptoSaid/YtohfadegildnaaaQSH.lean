import Derived.Deep.LoopGhost
import Derived.Deep.CutBlock
import Derived.Deep.DeepCutAuto
import Derived.Test.YtohfadegildnaaaQSG
set_option linter.all false
set_option maxRecDepth 100000
set_option linter.unusedVariables false
namespace Go.Proofs.Ytohfadegildnaaa
open Go.RowKit
open Lib (hid)
def Md2 (l:List El) (W:World) (n:Nat) (v:Value) (Wc:World):Prop:=v=.int .i64 ((hpre l).length:Nat)∧(hpre l).length≤n∧Below W.heap.size W Wc
set_option maxHeartbeats 16000000 in
theorem half2 (hN:H3):H2:=by
 intro l w W g n c A b fs HLw hn HX
 refine Rs.lay ?_
 iterate 241 intro _
 change Code.wp _ _ _ _ _
 have HL:=hid (HLw.out.below HX.out.b)
 conv=>arg 2; dsimp only [qC1,qCJ,qCI,sndS,Try.f17,Option.getD]
 iterate 2 go_step
 go_cut [8] (Md2 l W n)
 case first=>
  clear hN;have HNL:=hid HL.out.len
  go_wp2
  go_loopw [8] (fun v wr=>∃ k:Nat,v=.int .i64 (k:Int)∧k≤n∧(∀ e ∈ l.take k,bdy e=false)∧Below W.heap.size W wr) (fun v _=>n - (intOf v).toNat)
  case atStart=>exact ⟨0,rfl,Nat.zero_le _,(fun e he=>by rw [List.take_zero] at he; cases he),Below.refl _ _⟩
  case round=>
   obtain ⟨k,rfl,hk,hall0,hb0⟩:=hrel;have HA:=hid hall0;have HB:=hid hb0;have HT:=hid (HL.out.below hb0);clear hall0 hb0
   by_cases hlt:k < n
   · obtain ⟨ad,rfl,hab,c0,c1,c2,c3,hr⟩:=HT.out.at_ hlt
     clear hr;have hll:k < l.length:=by rw [HNL.out]; exact hlt
     have HE:=hid (qBZ hll);have HSP:=hid (List.drop_eq_getElem_cons hll);generalize hel:el4 l k=el at *;have HC:=hid (fun W=>qFQ el W);obtain ⟨⟨r,q,a⟩,p⟩:=el;dsimp only at c0 c1 c2 c3
     change Hid (∀ W,Calls _ _ #[.agg #[.int .i32 r,.bool q,.int .i64 a,.bool p]] _ _) at HC
     cases hbd:bdy ((r,q,a),p)
     · have HS:=hid (show ∀ e ∈ l.take (k+1),bdy e=false from fun e he=>by
        rw [List.take_succ_eq_append_getElem hll] at he
        rcases List.mem_append.1 he with he | he
        · exact HA.out e he
        · rw [List.mem_singleton] at he; subst he; rw [← HE.out]; exact hbd)
       rw [hbd] at HC;clear hbd hel
       go_wp2_with (first | go_skip | (go_at_call 34; refine (HC.out _).mono ?_; rintro e w1 ⟨rfl,hb1⟩) | fail)
       go_roundw
       case rel=>exact ⟨k+1,by go_num,by omega,HS.out,HB.out.trans (hb1.mono HB.out.size)⟩
       case measure=>simp [intOf]; omega
     · have HS:=hid (show k=(hpre l).length from by
        have e:=(tw_app (p:=fun e=>!bdy e) (a:=l.take k) (b:=l.drop k) (fun x hx=>by show (!bdy x)=true; rw [HA.out x hx]; rfl) (fun x hx=>by
         rw [HSP.out] at hx;obtain rfl:=Option.some.inj hx
         show (!bdy _)=false
         rw [← HE.out,hbd]; rfl)).1
        rw [List.take_append_drop] at e;have e2:=congrArg List.length e;rw [List.length_take,Nat.min_eq_left (by omega)] at e2;exact e2.symm)
       rw [hbd] at HC;clear hbd hel
       go_wp2_with (first | go_skip | (go_at_call 34; refine (HC.out _).mono ?_; rintro e w1 ⟨rfl,hb1⟩) | fail)
       go_meet
       exact ⟨by rw [← HS.out],by rw [← HS.out]; exact hk,HB.out.trans (hb1.mono HB.out.size)⟩
   · have HS:=hid (show k=(hpre l).length from by
      have e:=(tw_app (p:=fun e=>!bdy e) (a:=l) (b:=[]) (fun x hx=>by
       show (!bdy x)=true
       rw [HA.out x (by rw [List.take_of_length_le (by rw [HNL.out]; omega)]; exact hx)]; rfl) (fun x hx=>by cases hx)).1
      rw [List.append_nil] at e;have e2:=congrArg List.length e;rw [HNL.out] at e2;have:(hpre l).length=n:=e2;omega)
     go_wp2_with (first | go_skip | fail)
     go_meet
     exact ⟨by rw [← HS.out],by rw [← HS.out]; exact hk,HB.out⟩
 case rest=>
 obtain ⟨rfl,hk,hbc⟩:=hcut
 go_step
 refine wp_mono (c:=qCC) (hN l w wc g n c A b fs HLw hn (hid (HX.out.below hbc)) _ ⟨rfl,rfl,rfl,rfl,rfl,rfl,rfl⟩) ?_
 intro e a w' h
 go_step
 exact h
set_option maxHeartbeats 16000000 in
theorem half3 (hN:H4):H3:=by
 intro l w W g n c A b fs HLw hn HX
 refine Rs.lay ?_
 iterate 241 intro _
 change Code.wp _ _ _ _ _
 have HL:=hid (HLw.out.below HX.out.b)
 conv=>arg 2; dsimp only [qCC,qC1,qCJ,qCI,sndS,Try.f17,Option.getD]
 iterate 2 go_step
 go_cut [] (FMid W (hnum l≠[]))
 case first=>
  clear hN;have hsum:=qAW l;have hll:=HL.out.len;have HNE:=hid (fun (h:(hpre l).length < n)=>show hnum l≠[] from hnum_ne (by omega));have HZ:=hid (fun (h:¬ (hpre l).length < n)=>show halfZ fs b l=({},4,b) from halfZ_1 (List.eq_nil_of_length_eq_zero (by omega)));have hk:(hpre l).length≤n:=by omega
  generalize (hpre l).length=k at *
  by_cases hkn:k=n
  · subst hkn
    have HZ:=hid (HZ.out (by omega));have HR:=hid (HX.out.ret dhZ (.int .i64 4) (.int .i64 b));have HS1:Hid (BX (W.setRow g dhZ) (g+1) #[.int .i64 0,.int .i64 0] 29):=hid (qAI HX.out.bf (by omega))
    go_wp2_with (first | go_skip | (refine wpList_store_row rfl 53 _ _ rfl g dhZ rfl rfl 53 dhZ HX.out.bh qAL rfl qB5 ?_) | (refine wpList_store_row rfl 29 _ _ rfl (g+1) #[.int .i64 4,.int .i64 b] rfl rfl 29 _ HS1.out (qA6 _ _) rfl (qA9 _ _) ?_) | fail)
    exact bodyPost_ret (v:=.tuple #[.agg dhZ,.agg #[.int .i64 4,.int .i64 b]]) (qAE Try.results17 _ _ g _ _ (0,0) _ rfl HR.out.1 Try.underlying53 rfl qAL (g+1) _ _ (0,0) _ rfl HR.out.2.1 Try.underlying29 rfl (qA6 _ _)) rfl (qAX.fault HZ.out (by decide) HR.out.2.2)
  · have g0:((k:Int) == (n:Int))=false:=by rw [beq_eq_false_iff_ne]; omega
    have HNE:=hid (HNE.out (by omega))
    go_wp2_with (first | go_skip | fail)
    go_meet
    exact ⟨rfl,HNE.out⟩
 case rest=>
 obtain ⟨rfl,hne⟩:=hcut
 go_step
 refine wp_mono (c:=qCK) (hN l w wc g n c A b fs HLw hn HX hne _ ⟨rfl,rfl,rfl,rfl,rfl,rfl,rfl⟩) ?_
 intro e a w' h
 go_step
 exact h
set_option maxHeartbeats 16000000 in
theorem half4 (hN:H5):H4:=by
 intro l w W g n c A b fs HLw hn HX hne
 refine Rs.lay ?_
 iterate 241 intro _
 change Code.wp _ _ _ _ _
 have HL:=hid (HLw.out.below HX.out.b)
 conv=>arg 2; dsimp only [qCK,qCC,qC1,qCJ,qCI,sndS,Try.f17,Option.getD]
 iterate 2 go_step
 go_cut [9] (VMid W (.int .i64 ((hpre l).length:Nat)))
 case first=>
  clear hN
  go_wp2
  go_meet
  exact ⟨rfl,rfl⟩
 case rest=>
 obtain ⟨rfl,rfl⟩:=hcut
 go_step
 refine wp_mono (c:=qCT) (hN l w wc g n c A b fs HLw hn HX hne _ ⟨rfl,rfl,rfl,rfl,rfl,rfl,rfl,rfl⟩) ?_
 intro e a w' h
 go_step
 exact h
def Md5 (m:Nat) (W:World) (v:Value) (Wc:World):Prop:=v=.int .i64 ((m:Nat):Int)∧Below W.heap.size W Wc
theorem Md5.of {m j:Nat} {W Wc:World} (h:j=m) (hb:Below W.heap.size W Wc):Md5 m W (.int .i64 (j:Int)) Wc:=⟨by rw [h],hb⟩
set_option maxHeartbeats 16000000 in
theorem half5 (hN:H6):H5:=by
 intro l w W g n c A b fs HLw hn HX hne
 refine Rs.lay ?_
 iterate 240 intro _
 change Code.wp _ _ _ _ _
 have HL:=hid (HLw.out.below HX.out.b)
 conv=>arg 2; dsimp only [qCT,qCK,qCC,qC1,qCJ,qCI,sndS,Try.f17,Option.getD]
 iterate 2 go_step
 go_cut [9] (Md5 ((hpre l).length+((hrst l).takeWhile bdy).length) W)
 case first=>
  clear hN;have HNL:=hid HL.out.len;have hle:(hpre l).length≤n:=by have:=qAW l; have:=HNL.out; omega
  have HRD:=hid (qFR l);generalize hm:(hpre l).length+((hrst l).takeWhile bdy).length=m at *;generalize hn0:(hpre l).length=n0 at *;have HM:=hid hm;have HN0:=hid hn0;clear hm hn0
  go_wp2
  go_loopw [9] (fun v wr=>∃ jv i:Nat,v=.int .i64 (jv:Int)∧jv=n0+i∧jv≤n∧(∀ e ∈ (l.drop (n0)).take i,bdy e=true)∧Below W.heap.size W wr) (fun v _=>n - (intOf v).toNat)
  case atStart=>exact ⟨n0,0,by first | rfl | go_num,rfl,by omega,(fun e he=>by rw [List.take_zero] at he; cases he),Below.refl _ _⟩
  case round=>
   obtain ⟨j3,i,rfl,hji,hk,hall0,hb0⟩:=hrel;have HA:=hid hall0;have HB:=hid hb0;have HJI:=hid hji;have HT:=hid (HL.out.below hb0);clear hall0 hb0 hji
   by_cases hlt:j3 < n
   · obtain ⟨ad3,hadA,hab,c0,c1,c2,c3,hr⟩:=HT.out.at_ hlt
     clear hr hab;subst hadA;have hll:i < (l.drop (n0)).length:=by rw [List.length_drop,HNL.out]; have:=HJI.out; omega
     have HE:=hid (show el4 l j3=(l.drop (n0))[i] by rw [HJI.out]; exact qF5 hll);generalize hel:el4 l j3=el at *;have HC:=hid (fun W=>qFQ el W);obtain ⟨⟨r,q,a⟩,p⟩:=el;dsimp only at c0 c1 c2 c3
     change Hid (∀ W,Calls _ _ #[.agg #[.int .i32 r,.bool q,.int .i64 a,.bool p]] _ _) at HC
     cases hbd:bdy ((r,q,a),p)
     · have HS:=hid (qER HA.out (Nat.le_of_lt hll) (fun h=>by rw [← HE.out]; exact hbd))
       rw [hbd] at HC;clear hbd hel
       go_wp2_with (first | go_skip | (go_at_call 34; refine (HC.out _).mono ?_; rintro e w1 ⟨rfl,hb1⟩) | fail)
       go_meet
       exact Md5.of (by rw [HJI.out,← HM.out,HRD.out,← HS.out]) (HB.out.trans (hb1.mono HB.out.size))
     · have HS:=hid (show ∀ e ∈ (l.drop (n0)).take (i+1),bdy e=true from fun e he=>by
        rw [List.take_succ_eq_append_getElem hll] at he
        rcases List.mem_append.1 he with he | he
        · exact HA.out e he
        · rw [List.mem_singleton] at he; subst he; rw [← HE.out]; exact hbd)
       rw [hbd] at HC;clear hbd hel
       go_wp2_with (first | go_skip | (go_at_call 34; refine (HC.out _).mono ?_; rintro e w1 ⟨rfl,hb1⟩) | fail)
       go_roundw
       case rel=>exact ⟨j3+1,i+1,by go_num,by have:=HJI.out; omega,by omega,HS.out,HB.out.trans (hb1.mono HB.out.size)⟩
       case measure=>simp [intOf]; omega
   · have HS:=hid (qER HA.out (by rw [List.length_drop,HNL.out]; have:=HJI.out; omega) (fun h=>by exfalso; rw [List.length_drop,HNL.out] at h; have:=HJI.out; omega))
     go_wp2_with (first | go_skip | fail)
     go_meet
     exact Md5.of (by rw [HJI.out,← HM.out,HRD.out,← HS.out]) HB.out
 case rest=>
 obtain ⟨rfl,hbc⟩:=hcut
 go_step
 refine wp_mono (c:=qCZ) (hN l w wc g n c A b fs HLw hn (hid (HX.out.below hbc)) hne _ ⟨rfl,rfl,rfl,rfl,rfl,rfl,rfl,rfl⟩) ?_
 intro e a w' h
 go_step
 exact h
set_option maxHeartbeats 16000000 in
theorem half6 (hN:H7):H6:=by
 intro l w W g n c A b fs HLw hn HX hne
 refine Rs.lay ?_
 iterate 240 intro _
 change Code.wp _ _ _ _ _
 have HL:=hid (HLw.out.below HX.out.b)
 conv=>arg 2; dsimp only [qCZ,qCT,qCK,qCC,qC1,qCJ,qCI,sndS,Try.f17,Option.getD]
 iterate 2 go_step
 go_cut [9] (Md5 ((hpre l).length+(hnum l).length) W)
 case first=>
  clear hN;have HNL:=hid HL.out.len;have HRE:=hid (dh_row_end l);have HLE:=hid (dh_row_le l);have HEN:=hid (fun (m:Nat) (h:m+(bhd (hrst l)).length=l.length)=>en_eq h);have HBH:Hid (bhd (hrst l)=match (hrst l).dropWhile bdy with
   | []=>[]
   | e :: b=>if plE 69 e then (match b with
    | []=>[]
    | f :: c=>if plE 43 f then c.dropWhile bdy else (f :: c).dropWhile bdy) else e :: b):=hid rfl
  generalize (hpre l).length+(hnum l).length=en at *;generalize (hpre l).length+((hrst l).takeWhile bdy).length=j at *;rw [← HRE.out] at HBH;generalize bhd (hrst l)=bh at *;clear HRE;have hjn:=HLE.out;rw [HNL.out] at hjn;clear HLE
  by_cases hlt:j < n
  · have hll:j < l.length:=by rw [HNL.out]; exact hlt
    have HDR:=hid (List.drop_eq_getElem_cons hll);rw [HDR.out,← qBZ hll] at HBH;obtain ⟨ad,hadA,hab,d0,d1,d2,d3,-⟩:=HL.out.at_ hlt;subst hadA;have HC69:=hid (fun W=>qF4 (el4 l j) 69 W);generalize hel:el4 l j=el at *;obtain ⟨⟨r,q,a⟩,p⟩:=el;dsimp only at d0 d1 d2 d3 HBH
    change Hid (∀ W,Calls _ _ #[.agg #[.int .i32 r,.bool q,.int .i64 a,.bool p],_] _ _) at HC69
    cases hE:plE 69 ((r,q,a),p)
    · rw [hE] at HC69
      have HF:=hid (HEN.out j (by rw [HBH.out,hE,if_neg (by decide),List.length_cons,List.length_drop]; omega));clear hE hel HBH
      go_wp2_with (first | go_skip | (go_at_call 16; refine (HC69.out _).mono ?_; rintro e w1 ⟨rfl,hb1⟩; clear HC69) | fail)
      go_meet
      exact Md5.of HF.out.symm hb1
    · rw [hE] at HC69
      rw [hE,if_pos rfl] at HBH;clear hE hel
      by_cases hlt2:j+1 < n
      · have hll2:j+1 < l.length:=by rw [HNL.out]; exact hlt2
        have HDR2:=hid (List.drop_eq_getElem_cons hll2);rw [HDR2.out,← qBZ hll2] at HBH;dsimp only at HBH;have HC43:=hid (fun W=>qF4 (el4 l (j+1)) 43 W);have HT1:=hid (fun w1 (hb:Below W.heap.size W w1)=>(HL.out.below hb).at_ hlt2);generalize hel:el4 l (j+1)=el2 at *;obtain ⟨⟨r2,q2,a2⟩,p2⟩:=el2
        change Hid (∀ W,Calls _ _ #[.agg #[.int .i32 r2,.bool q2,.int .i64 a2,.bool p2],_] _ _) at HC43
        have gw:IntKind.i64.wrap ((j:Int)+1)=((j+1:Nat):Int):=by rw [IntKind.wrap_i64]; omega
        have gl:decide (((j+1:Nat):Int) < (n:Int))=true:=decide_eq_true (by omega)
        cases hP:plE 43 ((r2,q2,a2),p2)
        · rw [hP] at HC43
          rw [hP,if_neg (by decide)] at HBH;have HBH2:=hid (show bh=(l.drop (j+1)).dropWhile bdy by rw [HDR2.out,← qBZ hll2,hel]; exact HBH.out);clear hP hel HBH
          go_upto_region 11 with (first | go_skip | (go_at_call 16; refine (HC69.out _).mono ?_; rintro e w1 ⟨rfl,hb1⟩; clear HC69) | fail)
          obtain ⟨ad2,hadA2,hab2,e0,e1,e2,e3,-⟩:=HT1.out w1 hb1
          cases hadA2
          go_wp2_with (first | go_skip | (go_at_call 16; refine (HC43.out _).mono ?_; rintro e w2 ⟨rfl,hb2⟩; clear HC43) | fail)
          have HBS:=hid (hb1.trans (hb2.mono hb1.size))
          go_loopw [9] (fun v wr=>∃ jv i:Nat,v=.int .i64 (jv:Int)∧jv=j+1+i∧jv≤n∧(∀ e ∈ (l.drop (j+1)).take i,bdy e=true)∧Below W.heap.size W wr) (fun v _=>n - (intOf v).toNat)
          case atStart=>exact ⟨j+1,0,by first | rfl | go_num,rfl,by omega,(fun e he=>by rw [List.take_zero] at he; cases he),HBS.out⟩
          case round=>
           obtain ⟨j3,i,rfl,hji,hk,hall0,hb0⟩:=hrel;have HA:=hid hall0;have HB:=hid hb0;have HJI:=hid hji;have HT:=hid (HL.out.below hb0);clear hall0 hb0 hji
           by_cases hlt:j3 < n
           · obtain ⟨ad3,hadA,hab,c0,c1,c2,c3,hr⟩:=HT.out.at_ hlt
             clear hr hab
             cases hadA
             have hll:i < (l.drop (j+1)).length:=by rw [List.length_drop,HNL.out]; have:=HJI.out; omega
             have HE:=hid (show el4 l j3=(l.drop (j+1))[i] by rw [HJI.out]; exact qF5 hll);generalize hel:el4 l j3=el at *;have HC:=hid (fun W=>qFQ el W);obtain ⟨⟨r,q,a⟩,p⟩:=el;dsimp only at c0 c1 c2 c3
             change Hid (∀ W,Calls _ _ #[.agg #[.int .i32 r,.bool q,.int .i64 a,.bool p]] _ _) at HC
             cases hbd:bdy ((r,q,a),p)
             · have HS:=hid (qER HA.out (Nat.le_of_lt hll) (fun h=>by rw [← HE.out]; exact hbd))
               rw [hbd] at HC;clear hbd hel
               go_wp2_with (first | go_skip | (go_at_call 34; refine (HC.out _).mono ?_; rintro e w1 ⟨rfl,hb1⟩) | fail)
               go_meet
               exact Md5.of (by rw [HEN.out j3 (by rw [HBH2.out,HJI.out,HS.out,Nat.add_assoc,qDB,List.length_drop]; omega)]) (HB.out.trans (hb1.mono HB.out.size))
             · have HS:=hid (show ∀ e ∈ (l.drop (j+1)).take (i+1),bdy e=true from fun e he=>by
                rw [List.take_succ_eq_append_getElem hll] at he
                rcases List.mem_append.1 he with he | he
                · exact HA.out e he
                · rw [List.mem_singleton] at he; subst he; rw [← HE.out]; exact hbd)
               rw [hbd] at HC;clear hbd hel
               go_wp2_with (first | go_skip | (go_at_call 34; refine (HC.out _).mono ?_; rintro e w1 ⟨rfl,hb1⟩) | fail)
               go_roundw
               case rel=>exact ⟨j3+1,i+1,by go_num,by have:=HJI.out; omega,by omega,HS.out,HB.out.trans (hb1.mono HB.out.size)⟩
               case measure=>simp [intOf]; omega
           · have HS:=hid (qER HA.out (by rw [List.length_drop,HNL.out]; have:=HJI.out; omega) (fun h=>by exfalso; rw [List.length_drop,HNL.out] at h; have:=HJI.out; omega))
             go_wp2_with (first | go_skip | fail)
             go_meet
             exact Md5.of (by rw [HEN.out j3 (by rw [HBH2.out,HJI.out,HS.out,Nat.add_assoc,qDB,List.length_drop]; omega)]) HB.out
        · rw [hP] at HC43
          rw [hP,if_pos rfl] at HBH;have HBH2:=hid (show bh=(l.drop (j+2)).dropWhile bdy from HBH.out);clear hP hel HBH
          go_upto_region 11 with (first | go_skip | (go_at_call 16; refine (HC69.out _).mono ?_; rintro e w1 ⟨rfl,hb1⟩; clear HC69) | fail)
          obtain ⟨ad2,hadA2,hab2,e0,e1,e2,e3,-⟩:=HT1.out w1 hb1
          cases hadA2
          go_wp2_with (first | go_skip | (go_at_call 16; refine (HC43.out _).mono ?_; rintro e w2 ⟨rfl,hb2⟩; clear HC43) | fail)
          have HBS:=hid (hb1.trans (hb2.mono hb1.size))
          go_loopw [9] (fun v wr=>∃ jv i:Nat,v=.int .i64 (jv:Int)∧jv=j+2+i∧jv≤n∧(∀ e ∈ (l.drop (j+2)).take i,bdy e=true)∧Below W.heap.size W wr) (fun v _=>n - (intOf v).toNat)
          case atStart=>exact ⟨j+2,0,by first | rfl | go_num,rfl,by omega,(fun e he=>by rw [List.take_zero] at he; cases he),HBS.out⟩
          case round=>
           obtain ⟨j3,i,rfl,hji,hk,hall0,hb0⟩:=hrel;have HA:=hid hall0;have HB:=hid hb0;have HJI:=hid hji;have HT:=hid (HL.out.below hb0);clear hall0 hb0 hji
           by_cases hlt:j3 < n
           · obtain ⟨ad3,hadA,hab,c0,c1,c2,c3,hr⟩:=HT.out.at_ hlt
             clear hr hab
             cases hadA
             have hll:i < (l.drop (j+2)).length:=by rw [List.length_drop,HNL.out]; have:=HJI.out; omega
             have HE:=hid (show el4 l j3=(l.drop (j+2))[i] by rw [HJI.out]; exact qF5 hll);generalize hel:el4 l j3=el at *;have HC:=hid (fun W=>qFQ el W);obtain ⟨⟨r,q,a⟩,p⟩:=el;dsimp only at c0 c1 c2 c3
             change Hid (∀ W,Calls _ _ #[.agg #[.int .i32 r,.bool q,.int .i64 a,.bool p]] _ _) at HC
             cases hbd:bdy ((r,q,a),p)
             · have HS:=hid (qER HA.out (Nat.le_of_lt hll) (fun h=>by rw [← HE.out]; exact hbd))
               rw [hbd] at HC;clear hbd hel
               go_wp2_with (first | go_skip | (go_at_call 34; refine (HC.out _).mono ?_; rintro e w1 ⟨rfl,hb1⟩) | fail)
               go_meet
               exact Md5.of (by rw [HEN.out j3 (by rw [HBH2.out,HJI.out,HS.out,Nat.add_assoc,qDB,List.length_drop]; omega)]) (HB.out.trans (hb1.mono HB.out.size))
             · have HS:=hid (show ∀ e ∈ (l.drop (j+2)).take (i+1),bdy e=true from fun e he=>by
                rw [List.take_succ_eq_append_getElem hll] at he
                rcases List.mem_append.1 he with he | he
                · exact HA.out e he
                · rw [List.mem_singleton] at he; subst he; rw [← HE.out]; exact hbd)
               rw [hbd] at HC;clear hbd hel
               go_wp2_with (first | go_skip | (go_at_call 34; refine (HC.out _).mono ?_; rintro e w1 ⟨rfl,hb1⟩) | fail)
               go_roundw
               case rel=>exact ⟨j3+1,i+1,by go_num,by have:=HJI.out; omega,by omega,HS.out,HB.out.trans (hb1.mono HB.out.size)⟩
               case measure=>simp [intOf]; omega
           · have HS:=hid (qER HA.out (by rw [List.length_drop,HNL.out]; have:=HJI.out; omega) (fun h=>by exfalso; rw [List.length_drop,HNL.out] at h; have:=HJI.out; omega))
             go_wp2_with (first | go_skip | fail)
             go_meet
             exact Md5.of (by rw [HEN.out j3 (by rw [HBH2.out,HJI.out,HS.out,Nat.add_assoc,qDB,List.length_drop]; omega)]) HB.out
      · have hjn1:j+1=n:=by omega
        have HBH2:=hid (show bh=[] by rw [HBH.out,List.drop_of_length_le (by rw [HNL.out]; omega)]);have HF:=hid (HEN.out n (by rw [HBH2.out]; show n+0=_; have:=HNL.out; omega));have gw:IntKind.i64.wrap ((j:Int)+1)=(n:Int):=by rw [IntKind.wrap_i64]; omega
        clear HBH HBH2
        go_wp2_with (first | go_skip | (go_at_call 16; refine (HC69.out _).mono ?_; rintro e w1 ⟨rfl,hb1⟩; clear HC69) | fail)
        have HBS:=hid hb1
        go_loopw [9] (fun v wr=>∃ jv i:Nat,v=.int .i64 (jv:Int)∧jv=n+i∧jv≤n∧(∀ e ∈ (l.drop (n)).take i,bdy e=true)∧Below W.heap.size W wr) (fun v _=>n - (intOf v).toNat)
        case atStart=>exact ⟨n,0,by first | rfl | go_num,rfl,by omega,(fun e he=>by rw [List.take_zero] at he; cases he),HBS.out⟩
        case round=>
         obtain ⟨j3,i,rfl,hji,hk,hall0,hb0⟩:=hrel;have HA:=hid hall0;have HB:=hid hb0;have HJI:=hid hji;have HT:=hid (HL.out.below hb0);clear hall0 hb0 hji
         by_cases hlt:j3 < n
         · obtain ⟨ad3,hadA,hab,c0,c1,c2,c3,hr⟩:=HT.out.at_ hlt
           clear hr hab
           cases hadA
           have hll:i < (l.drop (n)).length:=by rw [List.length_drop,HNL.out]; have:=HJI.out; omega
           have HE:=hid (show el4 l j3=(l.drop (n))[i] by rw [HJI.out]; exact qF5 hll);generalize hel:el4 l j3=el at *;have HC:=hid (fun W=>qFQ el W);obtain ⟨⟨r,q,a⟩,p⟩:=el;dsimp only at c0 c1 c2 c3
           change Hid (∀ W,Calls _ _ #[.agg #[.int .i32 r,.bool q,.int .i64 a,.bool p]] _ _) at HC
           cases hbd:bdy ((r,q,a),p)
           · have HS:=hid (qER HA.out (Nat.le_of_lt hll) (fun h=>by rw [← HE.out]; exact hbd))
             rw [hbd] at HC;clear hbd hel
             go_wp2_with (first | go_skip | (go_at_call 34; refine (HC.out _).mono ?_; rintro e w1 ⟨rfl,hb1⟩) | fail)
             go_meet
             exact Md5.of (by have:=HJI.out; have:=HF.out; omega) (HB.out.trans (hb1.mono HB.out.size))
           · have HS:=hid (show ∀ e ∈ (l.drop (n)).take (i+1),bdy e=true from fun e he=>by
              rw [List.take_succ_eq_append_getElem hll] at he
              rcases List.mem_append.1 he with he | he
              · exact HA.out e he
              · rw [List.mem_singleton] at he; subst he; rw [← HE.out]; exact hbd)
             rw [hbd] at HC;clear hbd hel
             go_wp2_with (first | go_skip | (go_at_call 34; refine (HC.out _).mono ?_; rintro e w1 ⟨rfl,hb1⟩) | fail)
             go_roundw
             case rel=>exact ⟨j3+1,i+1,by go_num,by have:=HJI.out; omega,by omega,HS.out,HB.out.trans (hb1.mono HB.out.size)⟩
             case measure=>simp [intOf]; omega
         · have HS:=hid (qER HA.out (by rw [List.length_drop,HNL.out]; have:=HJI.out; omega) (fun h=>by exfalso; rw [List.length_drop,HNL.out] at h; have:=HJI.out; omega))
           go_wp2_with (first | go_skip | fail)
           go_meet
           exact Md5.of (by have:=HJI.out; have:=HF.out; omega) HB.out
  · have HF:=hid (HEN.out j (by rw [HBH.out,List.drop_of_length_le (by have:=HNL.out; omega)]; show j+0=_; have:=HNL.out; omega))
    go_wp2_with (first | go_skip | fail)
    go_meet
    exact Md5.of HF.out.symm (Below.refl _ _)
 case rest=>
 obtain ⟨rfl,hbc⟩:=hcut
 go_step
 refine wp_mono (c:=qDD) (hN l w wc g n c A b fs HLw hn (hid (HX.out.below hbc)) hne _ ⟨rfl,rfl,rfl,rfl,rfl,rfl,rfl,rfl⟩) ?_
 intro e a w' h
 go_step
 exact h
def pdn (a:Int):Int:=if a=0 then 0 else 1
def Md7 (W:World) (v:Value) (Wc:World):Prop:=v=.pointer (some ⟨W.heap.size,0,none⟩)∧BX Wc W.heap.size dhZ 53∧Below W.heap.size W Wc
def Md9 (l:List El) (fs:Bool) (q:Nat) (W Wc:World):Prop:=∃ at_ pad:Int,BX Wc q (dhV (.slice none 0 0) (.slice none 0 0) {} at_ pad 0) 53∧Below q W Wc∧padZ fs l=((at_,pad),0,0)
set_option maxHeartbeats 16000000 in
theorem half7 (hN:H8):H7:=by
 intro l w W g n c A b fs HLw hn HX hne
 refine Rs.lay ?_
 iterate 240 intro _
 change Code.wp _ _ _ _ _
 have HL:=hid (HLw.out.below HX.out.b)
 conv=>arg 2; dsimp only [qDD,qCZ,qCT,qCK,qCC,qC1,qCJ,qCI,sndS,Try.f17,Option.getD]
 iterate 2 go_step
 go_cut [10] (Md7 W)
 case first=>
  clear hN
  go_wp2_with (first | go_skip | (refine wpList_store_row rfl 53 _ _ rfl W.heap.size dhZ rfl rfl 53 dhZ (BX.new W dhZ 53) qAL rfl qB5 ?_) | fail)
  go_meet
  exact ⟨rfl,setRow_heap _ _ dhZ _ _ _ (BX.new W dhZ 53),((Below.refl _ _).alloc (Nat.le_refl _) _).setRow (Nat.le_refl _) _⟩
 case rest=>
 obtain ⟨rfl,hbx,hbc⟩:=hcut
 go_step
 refine wp_mono (c:=qDN) (hN l w wc g n c A b fs _ HLw hn (hid (HX.out.below hbc)) hne (hid hbx) HX.out.bf.lt _ ⟨rfl,rfl,rfl,rfl,rfl,rfl,rfl,rfl,rfl⟩) ?_
 intro e a w' h
 go_step
 exact h
set_option maxHeartbeats 16000000 in
theorem half8 (hN:H9):H8:=by
 intro l w W g n c A b fs q HLw hn HX hne HB hq
 refine Rs.lay ?_
 iterate 239 intro _
 change Code.wp _ _ _ _ _
 have HL:=hid (HLw.out.below HX.out.b)
 conv=>arg 2; dsimp only [qDN,qDD,qCZ,qCT,qCK,qCC,qC1,qCJ,qCI,sndS,Try.f17,Option.getD]
 iterate 2 go_step
 go_cut [11] (VMid W (.int .i64 0))
 case first=>
  clear hN
  go_wp2
  go_meet
  exact ⟨rfl,rfl⟩
 case rest=>
 obtain ⟨rfl,rfl⟩:=hcut
 go_step
 refine wp_mono (c:=qE1) (hN l w wc g n c A b fs q HLw hn HX hne HB hq _ ⟨rfl,rfl,rfl,rfl,rfl,rfl,rfl,rfl,rfl,rfl⟩) ?_
 intro e a w' h
 go_step
 exact h
set_option maxHeartbeats 16000000 in
theorem half9 (hN:H10):H9:=by
 intro l w W g n c A b fs q HLw hn HX hne HB hq
 refine Rs.lay ?_
 iterate 238 intro _
 change Code.wp _ _ _ _ _
 have HL:=hid (HLw.out.below HX.out.b)
 conv=>arg 2; dsimp only [qE1,qDN,qDD,qCZ,qCT,qCK,qCC,qC1,qCJ,qCI,sndS,Try.f17,Option.getD]
 iterate 2 go_step
 go_cut [] (Md9 l fs q W)
 case first=>
  clear hN;have HNL:=hid HL.out.len;have HSUM:=hid (qAW l);have HNN:=hid (List.length_pos_iff.2 hne);have HP0:=hid (show padZ fs l=padR (whr fs (hpre l).length ((hpre l).length+(hnum l).length) l.length) 0 l 0 0 from rfl);have HF:=hid (fun (x y:Int) (p:Int × Int) (hp:padZ fs l=(p,x,y)) (hx:x≠0)=>halfZ_2 (b:=b) hne hp hx);rw [HNL.out] at HP0;generalize hn0:(hpre l).length=n0 at *;generalize hen:n0+(hnum l).length=en at *;have hn0n:n0 < n:=by have:=HSUM.out; have:=HNN.out; have:=HNL.out; omega
  have henn:en≤n:=by have:=HSUM.out; have:=HNL.out; omega
  have henp:0 < en:=by have:=HNN.out; omega
  clear hn0 hen HSUM HNN hne;generalize hPZ:padZ fs l=PZ at *;have HPE:=hid hPZ;clear hPZ
  go_wp2
  go_loopw [11,12] (fun pv iv wr=>∃ (k:Nat) (a r:Int),iv=.int .i64 (k:Int)∧k≤n∧pv=.int .i64 (pdn a)∧BX wr q (dhV (.slice none 0 0) (.slice none 0 0) {} a r 0) 53∧Below q W wr∧PZ=padR (whr fs n0 en n) k (l.drop k) a r) (fun _ iv _=>n - (intOf iv).toNat)
  case atStart=>exact ⟨0,0,0,rfl,Nat.zero_le _,rfl,HB.out,Below.refl _ _,HP0.out⟩
  case round=>
   obtain ⟨k,a,r,rfl,hk,rfl,hbq,hbb,hpz⟩:=hrel;have HBq:=hid hbq;have HBB:=hid hbb;have HPZ:=hid hpz;have HXr:=hid (HX.out.keep (hbb.mono (by omega)));clear hbq hbb hpz
   by_cases hlt:k < n
   · have hll:k < l.length:=by rw [HNL.out]; exact hlt
     have HDR:=hid (List.drop_eq_getElem_cons hll);rw [HDR.out,← qBZ hll] at HPZ;obtain ⟨ad,hadA,hab,d0,d1,d2,d3,hr⟩:=HLw.out.at_ hlt;subst hadA;clear hr;have hgz:=HX.out.hz;have hbw:ad.block < g:=by rw [← hgz]; exact hab
     have HBW:=hid (HXr.out.b);have c0:=(HBW.out.cell (p:=ad.add (k * 4)) (by rw [qA7]; exact hab)).trans d0;have c2:=(HBW.out.cell (p:=⟨(ad.add (k * 4)).block,(ad.add (k * 4)).off+2,none⟩) (by show (ad.add (k * 4)).block < _; rw [qA7]; exact hab)).trans d2;have c3:=(HBW.out.cell (p:=⟨(ad.add (k * 4)).block,(ad.add (k * 4)).off+3,none⟩) (by show (ad.add (k * 4)).block < _; rw [qA7]; exact hab)).trans d3;clear d0 d1 d2 d3 hab HBW;generalize el4 l k=el at *;obtain ⟨⟨er,eq,ea⟩,ep⟩:=el;dsimp only at c0 c2 c3
     cases ep
     · have HPZ2:=hid (show PZ=padR (whr fs n0 en n) (k+1) (l.drop (k+1)) a r from HPZ.out)
       clear HPZ
       go_wp2_with (first | go_skip | fail)
       go_roundw
       case rel=>exact ⟨k+1,a,r,by go_num,by omega,rfl,HBq.out,HBB.out,HPZ2.out⟩
       case measure=>simp [intOf]; omega
     · go_upto_region 21 with (first | go_skip | fail)
       go_cut [13] (VMid wr (.int .i64 0))
       case first=>
        go_wp2
        go_meet
        exact ⟨rfl,rfl⟩
       case rest=>
       obtain ⟨rfl,rfl⟩:=hcut
       iterate 2 go_step
       go_cut [13] (VMid wc (.int .i64 (whr true n0 en n k)))
       case first=>
        by_cases h0:k=0
        · subst h0
          have HV:=hid (show whr true n0 en n 0=1 from rfl)
          go_wp2_with (first | go_skip | fail)
          go_meet
          exact ⟨by rw [HV.out],rfl⟩
        · have g0:((k:Int) == 0)=false:=by rw [beq_eq_false_iff_ne]; omega
          by_cases h1:k+1=n0
          · have HV:=hid (show whr true n0 en n k=2 by rw [whr,if_neg (by decide),if_neg h0,if_pos h1])
            have g1:((k:Int) == (n0:Int) - 1)=true:=by rw [beq_iff_eq]; omega
            clear h1
            go_wp2_with (first | go_skip | fail)
            go_meet
            exact ⟨by rw [HV.out],rfl⟩
          · have g1:((k:Int) == (n0:Int) - 1)=false:=by rw [beq_eq_false_iff_ne]; omega
            by_cases h2:k=en
            · have HV:=hid (show whr true n0 en n k=3 by rw [whr,if_neg (by decide),if_neg h0,if_neg h1,if_pos h2])
              have g2:((k:Int) == (en:Int))=true:=by rw [beq_iff_eq,h2]
              clear h2
              go_wp2_with (first | go_skip | fail)
              go_meet
              exact ⟨by rw [HV.out],rfl⟩
            · have g2:((k:Int) == (en:Int))=false:=by rw [beq_eq_false_iff_ne]; omega
              by_cases h3:k+1=n
              · have HV:=hid (show whr true n0 en n k=4 by rw [whr,if_neg (by decide),if_neg h0,if_neg h1,if_neg h2,if_pos h3])
                have g3:((k:Int) == (n:Int) - 1)=true:=by rw [beq_iff_eq]; omega
                clear h3
                go_wp2_with (first | go_skip | fail)
                go_meet
                exact ⟨by rw [HV.out],rfl⟩
              · have HV:=hid (show whr true n0 en n k=0 by rw [whr,if_neg (by decide),if_neg h0,if_neg h1,if_neg h2,if_neg h3])
                have g3:((k:Int) == (n:Int) - 1)=false:=by rw [beq_eq_false_iff_ne]; omega
                go_wp2_with (first | go_skip | fail)
                go_meet
                exact ⟨by rw [HV.out],rfl⟩
       case rest=>
       obtain ⟨rfl,rfl⟩:=hcut;go_step;have HX:=HXr;have HWF:=hid (show whr fs n0 en n k=if fs then whr true n0 en n k else 0 by cases fs <;> rfl);generalize hwz:whr true n0 en n k=z at *;clear hwz
       by_cases hok:fs=true∧z≠0∧a=0
       · obtain ⟨rfl,hz0,rfl⟩:=hok
         have HPZ2:=hid (show PZ=padR (whr true n0 en n) (k+1) (l.drop (k+1)) z er by
          rw [HPZ.out,padR,if_pos rfl,HWF.out,if_pos rfl,if_neg (by simp [hz0])])
         have gz:(z == 0)=false:=by rw [beq_eq_false_iff_ne]; exact hz0
         have HZ0:=hid hz0;clear HPZ HWF hz0;rw [show pdn 0=0 from rfl]
         go_upto_region 33 with (first | go_skip | fail)
         have f0:=HBq.out.fr 22;have f1:=HBq.out.fr 23;have x0:wc.cell? ⟨q,22,none⟩=some (.int .i64 0):=HBq.out.c 22;have x1:wc.cell? ⟨q,23,none⟩=some (.int .i32 r):=HBq.out.c 23;have e0:(wc.setCell ⟨q,22,none⟩ (.int .i64 z)).cell? (ad.add (k * 4))=some (.int .i32 er):=(((Below.refl q wc).setCell (p:=⟨q,22,none⟩) (Nat.le_refl q) (.int .i64 z)).cell (p:=ad.add (k * 4)) (by rw [qA7]; omega)).trans c0
         go_region
         go_wp2_with (first | go_skip | fail)
         go_roundw
         case rel=>
          have hb9:BX ((wc.setCell ⟨q,22,none⟩ (.int .i64 z)).setCell ⟨q,23,none⟩ (.int .i32 er)) q (dhV (.slice none 0 0) (.slice none 0 0) {} z er 0) 53:=heap_setCell_same _ q 23 _ 53 _ (heap_setCell_same wc q 22 _ 53 _ HBq.out);exact ⟨k+1,z,er,by go_num,by omega,by rw [pdn,if_neg HZ0.out],hb9,((HBB.out.setCell (p:=⟨q,22,none⟩) (Nat.le_refl q) (.int .i64 z)).setCell (p:=⟨q,23,none⟩) (Nat.le_refl q) (.int .i32 er)).drew,HPZ2.out⟩
         case measure=>simp [intOf]; omega
       · have HZ:=hid (show halfZ fs b l=({},7,ea) from HF.out 7 ea _ (by
          rw [HPZ.out,padR,if_pos rfl,if_pos];rw [HWF.out]
          cases fs
          · exact .inl rfl
          · by_cases hz0:z=0
            · exact .inl (by rw [hz0]; rfl)
            · by_cases ha0:a=0
              · exact absurd ⟨rfl,hz0,ha0⟩ hok
              · exact .inr ha0) (by decide))
         by_cases hz0:z=0
         · subst hz0
           clear hok HPZ HWF
           go_upto_region 32 with (first | go_skip | fail)
           have HXd:=hid HX.out.drew;have HR:=hid (HXd.out.ret dhZ (.int .i64 7) (.int .i64 ea));refine wp_region_held_drew (S:=(fun W9:World=>W9.cell? ⟨(ad.add (k * 4)).block,(ad.add (k * 4)).off+2,none⟩=some (.int .i64 ea))) (by kernel_rfl) (c2) (fun hHeld=>?_);refine' qt 0 hHeld ?_
           try simp only [pk]
           refine' qt 1 hHeld ?_
           try simp only [pk]
           refine' qt 2 hHeld ?_
           try simp only [pk]
           refine' qt 3 hHeld ?_
           try simp only [pk]
           refine' qt 4 hHeld ?_
           try simp only [pk]
           refine' qt 5 hHeld ?_
           try simp only [pk]
           refine' qt 6 hHeld ?_
           try simp only [pk]
           refine' qt 7 hHeld ?_
           try simp only [pk]
           refine qp 8 fun K hK=>?_;refine wp_store_row 53 _ _ rfl g dhZ rfl rfl 53 dhZ HXd.out.bh qAL rfl qB5 ?_;refine hK.out _ _ ((cell_setRow_other _ _ _ _ (by show (ad.add (k * 4)).block≠g; rw [qA7]; omega)).trans hHeld) (fun hHeld=>?_);clear hK K
           try simp only [Act.put]
           refine qp 9 fun K hK=>?_;refine wp_store_row 29 _ _ rfl (g+1) #[.int .i64 7,.int .i64 ea] rfl rfl 29 _ (qAI HXd.out.bf (by omega)) (qA6 _ _) rfl (qA9 _ _) ?_;refine hK.out _ _ ((cell_setRow_other _ _ _ _ (by show (ad.add (k * 4)).block≠g+1; rw [qA7]; omega)).trans hHeld) (fun hHeld=>?_);clear hK K
           try simp only [Act.put]
           refine wpAnyH_done (by kernel_rfl) ?_ _;clear hHeld
           go_wp2
           exact bodyPost_ret (v:=.tuple #[.agg dhZ,.agg #[.int .i64 7,.int .i64 ea]]) (qAE Try.results17 _ _ g _ _ (0,0) _ rfl HR.out.1 Try.underlying53 rfl qAL (g+1) _ _ (0,0) _ rfl HR.out.2.1 Try.underlying29 rfl (qA6 _ _)) rfl (qAX.fault HZ.out (by decide) HR.out.2.2)
         · have gz:(z == 0)=false:=by rw [beq_eq_false_iff_ne]; exact hz0
           by_cases ha0:a=0
           · subst ha0
             obtain rfl:fs=false:=by
              cases fs
              · rfl
              · exact absurd ⟨rfl,hz0,rfl⟩ hok
             clear hok HPZ HWF hz0;rw [show pdn 0=0 from rfl]
             go_upto_region 32 with (first | go_skip | fail)
             have HXd:=hid HX.out.drew;have HR:=hid (HXd.out.ret dhZ (.int .i64 7) (.int .i64 ea));refine wp_region_held_drew (S:=(fun W9:World=>W9.cell? ⟨(ad.add (k * 4)).block,(ad.add (k * 4)).off+2,none⟩=some (.int .i64 ea))) (by kernel_rfl) (c2) (fun hHeld=>?_);refine' qt 0 hHeld ?_
             try simp only [pk]
             refine' qt 1 hHeld ?_
             try simp only [pk]
             refine' qt 2 hHeld ?_
             try simp only [pk]
             refine' qt 3 hHeld ?_
             try simp only [pk]
             refine' qt 4 hHeld ?_
             try simp only [pk]
             refine' qt 5 hHeld ?_
             try simp only [pk]
             refine' qt 6 hHeld ?_
             try simp only [pk]
             refine' qt 7 hHeld ?_
             try simp only [pk]
             refine qp 8 fun K hK=>?_;refine wp_store_row 53 _ _ rfl g dhZ rfl rfl 53 dhZ HXd.out.bh qAL rfl qB5 ?_;refine hK.out _ _ ((cell_setRow_other _ _ _ _ (by show (ad.add (k * 4)).block≠g; rw [qA7]; omega)).trans hHeld) (fun hHeld=>?_);clear hK K
             try simp only [Act.put]
             refine qp 9 fun K hK=>?_;refine wp_store_row 29 _ _ rfl (g+1) #[.int .i64 7,.int .i64 ea] rfl rfl 29 _ (qAI HXd.out.bf (by omega)) (qA6 _ _) rfl (qA9 _ _) ?_;refine hK.out _ _ ((cell_setRow_other _ _ _ _ (by show (ad.add (k * 4)).block≠g+1; rw [qA7]; omega)).trans hHeld) (fun hHeld=>?_);clear hK K
             try simp only [Act.put]
             refine wpAnyH_done (by kernel_rfl) ?_ _;clear hHeld
             go_wp2
             exact bodyPost_ret (v:=.tuple #[.agg dhZ,.agg #[.int .i64 7,.int .i64 ea]]) (qAE Try.results17 _ _ g _ _ (0,0) _ rfl HR.out.1 Try.underlying53 rfl qAL (g+1) _ _ (0,0) _ rfl HR.out.2.1 Try.underlying29 rfl (qA6 _ _)) rfl (qAX.fault HZ.out (by decide) HR.out.2.2)
           · rw [show pdn a=1 from if_neg ha0]
             clear hok HPZ HWF hz0 ha0
             go_upto_region 32 with (first | go_skip | fail)
             have HXd:=hid HX.out.drew;have HR:=hid (HXd.out.ret dhZ (.int .i64 7) (.int .i64 ea));refine wp_region_held_drew (S:=(fun W9:World=>W9.cell? ⟨(ad.add (k * 4)).block,(ad.add (k * 4)).off+2,none⟩=some (.int .i64 ea))) (by kernel_rfl) (c2) (fun hHeld=>?_);refine' qt 0 hHeld ?_
             try simp only [pk]
             refine' qt 1 hHeld ?_
             try simp only [pk]
             refine' qt 2 hHeld ?_
             try simp only [pk]
             refine' qt 3 hHeld ?_
             try simp only [pk]
             refine' qt 4 hHeld ?_
             try simp only [pk]
             refine' qt 5 hHeld ?_
             try simp only [pk]
             refine' qt 6 hHeld ?_
             try simp only [pk]
             refine' qt 7 hHeld ?_
             try simp only [pk]
             refine qp 8 fun K hK=>?_;refine wp_store_row 53 _ _ rfl g dhZ rfl rfl 53 dhZ HXd.out.bh qAL rfl qB5 ?_;refine hK.out _ _ ((cell_setRow_other _ _ _ _ (by show (ad.add (k * 4)).block≠g; rw [qA7]; omega)).trans hHeld) (fun hHeld=>?_);clear hK K
             try simp only [Act.put]
             refine qp 9 fun K hK=>?_;refine wp_store_row 29 _ _ rfl (g+1) #[.int .i64 7,.int .i64 ea] rfl rfl 29 _ (qAI HXd.out.bf (by omega)) (qA6 _ _) rfl (qA9 _ _) ?_;refine hK.out _ _ ((cell_setRow_other _ _ _ _ (by show (ad.add (k * 4)).block≠g+1; rw [qA7]; omega)).trans hHeld) (fun hHeld=>?_);clear hK K
             try simp only [Act.put]
             refine wpAnyH_done (by kernel_rfl) ?_ _;clear hHeld
             go_wp2
             exact bodyPost_ret (v:=.tuple #[.agg dhZ,.agg #[.int .i64 7,.int .i64 ea]]) (qAE Try.results17 _ _ g _ _ (0,0) _ rfl HR.out.1 Try.underlying53 rfl qAL (g+1) _ _ (0,0) _ rfl HR.out.2.1 Try.underlying29 rfl (qA6 _ _)) rfl (qAX.fault HZ.out (by decide) HR.out.2.2)
   · have HE:=hid (show PZ=((a,r),0,0) by rw [HPZ.out,List.drop_of_length_le (by rw [HNL.out]; omega),padR])
     go_wp2_with (first | go_skip | fail)
     go_meet
     exact ⟨a,r,HBq.out,HBB.out,HPE.out.trans HE.out⟩
 case rest=>
 obtain ⟨at_,pad,hb9,hbb,hpd⟩:=hcut
 go_step
 refine wp_mono (c:=qC6) (hN l w wc g n c A b fs q at_ pad HLw hn (hid (HX.out.keep (hbb.mono (by omega)))) hne (hid hb9) hq (hid hpd) _ ⟨rfl,rfl,rfl,rfl,rfl,rfl,rfl,rfl,rfl⟩) ?_
 intro e a w' h
 go_step
 exact h
end Go.Proofs.Ytohfadegildnaaa
