import Derived.Deep.LoopGhost
import Derived.Deep.CutBlock
import Derived.Deep.DeepCutAuto
import Derived.Test.YtohfadegildnaaaQSG
import Derived.Test.YtohfadegildnaaaQSH
set_option linter.all false
set_option maxRecDepth 100000
set_option linter.unusedVariables false
namespace Go.Proofs.Ytohfadegildnaaa
open Go.RowKit
open Lib (hid)
def Md10 (W:World) (v u:Value) (Wc:World):Prop:=v=.slice none 0 0∧u=.slice none 0 0∧Wc=W
def Md12 (l:List El) (W:World) (av bv sv:Value) (Wc:World):Prop:=∃ A1 n1 c1 A2 n2 c2,av=.slice A1 n1 c1∧bv=.slice A2 n2 c2∧sv=.string (stz (chE (hnum l)))∧Tks Wc A1 n1 (tksE (hpre l))∧Tks Wc A2 n2 (tksE (hsuf l))∧Below W.heap.size W Wc
structure At12 (l:List El) (n0 en:Nat) (W wr:World) (k D:Nat) (av bv sv:Value):Prop where
 lo:W.heap.size≤D
 hi:D≤wr.heap.size
 ra:∃ A1 n1 c1,av=.slice A1 n1 c1∧qAZ wr D 3 A1 n1 (qC7 (tksE (l.take (min k n0))))∧n1≤k
 oa:k≤n0→∃ n1,wr.ownsRow W.heap.size 48 3 av n1 (qC7 (tksE (l.take k)))∧n1≤k
 ob:∃ n2,wr.ownsRow D 48 3 bv n2 (qC7 (tksE ((l.drop en).take (k - en))))∧n2≤k
 nb:k≤en→bv=.slice none 0 0
 s:sv=.string (stz (chE ((hnum l).take (k - n0))))
 b:Below W.heap.size W wr
theorem At12.start (l:List El) (n0 en:Nat) (W:World):At12 l n0 en W W 0 W.heap.size (.slice none 0 0) (.slice none 0 0) (.string ⟨#[]⟩):=by
 have e1:min 0 n0=0:=Nat.zero_min _
 refine ⟨Nat.le_refl _,Nat.le_refl _,⟨none,0,0,rfl,?_,Nat.le_refl _⟩,fun _=>⟨0,?_,Nat.le_refl _⟩,⟨0,?_,Nat.le_refl _⟩,fun _=>rfl,?_,Below.refl _ _⟩
 · rw [e1,List.take_zero]; exact qAZ.none_
 · rw [List.take_zero]; exact World.ownsRow_nil _ _ _ _
 · rw [Nat.zero_sub,List.take_zero]; exact World.ownsRow_nil _ _ _ _
 · rw [Nat.zero_sub,List.take_zero]; rfl
section
variable {l:List El} {n0 en k D:Nat} {W wr w':World} {av bv sv:Value}
theorem At12.pad (h:At12 l n0 en W wr k D av bv sv) (hk:k < l.length) (hp:(el4 l k).2=true) (hn:hpre l=l.take n0∧(hpre l).length=n0∧en=n0+(hnum l).length):At12 l n0 en W wr (k+1) D av bv sv:=by
 obtain ⟨A1,n1,c1,e1,hra,hn1⟩:=h.ra
 obtain ⟨n2,hob,hn2⟩:=h.ob
 rw [qBZ hk] at hp
 have hno:¬ (n0≤k∧k < en):=by
  rintro ⟨ha,hb⟩;obtain ⟨hh,he⟩:=el4_num (l:=l) (k:=k) (by rw [hn.2.1]; exact ha) (by rw [hn.2.1,← hn.2.2]; exact hb);have:=(qE8 l _ (List.getElem_mem hh)).1;rw [he,qBZ hk,hp] at this; cases this
 refine ⟨h.lo,h.hi,⟨A1,n1,c1,e1,?_,by omega⟩,fun hk0=>?_,⟨n2,?_,by omega⟩,fun hke=>h.nb (by omega),?_,h.b⟩
 · by_cases hk0:k < n0
   · rw [Nat.min_eq_left (by omega)] at hra ⊢
     rw [qDC hk,hp,if_pos rfl,List.append_nil]; exact hra
   · rw [Nat.min_eq_right (by omega)] at hra ⊢
     exact hra
 · obtain ⟨m,ho,hm⟩:=h.oa (by omega)
   refine ⟨m,?_,by omega⟩;rw [qDC hk,hp,if_pos rfl,List.append_nil]; exact ho
 · by_cases hke:k < en
   · rw [show k+1 - en=0 by omega]; rw [show k - en=0 by omega] at hob; exact hob
   · have hl:k - en < (l.drop en).length:=by rw [List.length_drop]; omega
     have he:(l.drop en)[k - en]=l[k]:=by rw [List.getElem_drop]; congr 1; omega
     rw [show k+1 - en=(k - en)+1 by omega,qDC hl,he,hp,if_pos rfl,List.append_nil]; exact hob
 · rw [h.s]
   by_cases hk0:k < n0
   · rw [show k+1 - n0=0 by omega,show k - n0=0 by omega]
   · have hke:en≤k:=by omega
     rw [List.take_of_length_le (show (hnum l).length≤k - n0 by omega),List.take_of_length_le (show (hnum l).length≤k+1 - n0 by omega)]
theorem At12.pre (h:At12 l n0 en W wr k D av bv sv) (hk:k < l.length) (hp:(el4 l k).2=false) (h0:k < n0) (he:n0≤en) {v':Value} {n1:Nat} (ho:w'.ownsRow W.heap.size 48 3 v' (n1+1) (qC7 (tksE (l.take k)++[(el4 l k).1]))) (hn1:n1≤k) (hb:Below W.heap.size W w') :
 At12 l n0 en W w' (k+1) w'.heap.size v' bv sv:=by
 rw [qBZ hk] at hp ho
 have e:tksE (l.take (k+1))=tksE (l.take k)++[l[k].1]:=by rw [qDC hk,hp]; rfl
 rw [← e] at ho
 obtain ⟨A,c,rfl⟩:=qAN ho
 refine ⟨hb.size,Nat.le_refl _,⟨A,n1+1,c,rfl,?_,by omega⟩,fun _=>⟨n1+1,ho,by omega⟩,⟨0,?_,Nat.zero_le _⟩,fun hke=>h.nb (by omega),?_,hb⟩
 · rw [Nat.min_eq_left (by omega)]; exact qAZ.of_own ho
 · rw [h.nb (by omega),show k+1 - en=0 by omega,List.take_zero]; exact World.ownsRow_nil _ _ _ _
 · rw [h.s,show k+1 - n0=0 by omega,show k - n0=0 by omega]
theorem At12.num (h:At12 l n0 en W wr k D av bv sv) (h0:n0≤k) (he:k < en) (hn:(hpre l).length=n0∧en=n0+(hnum l).length) (hb:Below wr.heap.size wr w'):At12 l n0 en W w' (k+1) D av bv (.string (stz (chE ((hnum l).take (k - n0))++[(el4 l k).1.1.toNat]))):=by
 obtain ⟨A1,n1,c1,e1,hra,hn1⟩:=h.ra
 obtain ⟨n2,hob,hn2⟩:=h.ob
 obtain ⟨hh,hee⟩:=el4_num (l:=l) (k:=k) (by rw [hn.1]; exact h0) (by rw [hn.1,← hn.2]; exact he)
 have hh':k - n0 < (hnum l).length:=by rw [← hn.1]; exact hh
 refine ⟨h.lo,Nat.le_trans h.hi hb.size,⟨A1,n1,c1,e1,?_,by omega⟩,fun hk0=>absurd hk0 (by omega),⟨0,?_,Nat.zero_le _⟩,fun hke=>h.nb (by omega),?_,h.b.trans (hb.mono h.b.size)⟩
 · rw [Nat.min_eq_right (by omega)] at hra ⊢
   exact hra.below (hb.mono h.hi)
 · rw [h.nb (by omega),show k+1 - en=0 by omega,List.take_zero]; exact World.ownsRow_nil _ _ _ _
 · rw [show k+1 - n0=(k - n0)+1 by omega,chE_snoc hh']
   have:(hnum l)[k - n0]=el4 l k:=by rw [← hee]; congr 2; rw [hn.1]
   rw [this]
theorem At12.suf (h:At12 l n0 en W wr k D av bv sv) (hk:k < l.length) (hp:(el4 l k).2=false) (h0:n0≤en) (he:en≤k) (hn:en=n0+(hnum l).length) {v':Value} {n2:Nat} (ho:w'.ownsRow D 48 3 v' (n2+1) (qC7 (tksE ((l.drop en).take (k - en))++[(el4 l k).1]))) (hn2:n2≤k) (hb:Below D wr w') :
 At12 l n0 en W w' (k+1) D av v' sv:=by
 obtain ⟨A1,n1,c1,e1,hra,hn1⟩:=h.ra
 rw [qBZ hk] at hp ho
 have hl:k - en < (l.drop en).length:=by rw [List.length_drop]; omega
 have hx:(l.drop en)[k - en]=l[k]:=by rw [List.getElem_drop]; congr 1; omega
 have e:tksE ((l.drop en).take (k+1 - en))=tksE ((l.drop en).take (k - en))++[l[k].1]:=by rw [show k+1 - en=(k - en)+1 by omega,qDC hl,hx,hp]; rfl
 rw [← e] at ho
 refine ⟨h.lo,Nat.le_trans h.hi hb.size,⟨A1,n1,c1,e1,?_,by omega⟩,fun hk0=>?_,⟨n2+1,ho,by omega⟩,fun hke=>absurd hke (by omega),?_,h.b.trans (hb.mono h.lo)⟩
 · rw [Nat.min_eq_right (by omega)] at hra ⊢
   exact hra.below hb
 · omega
 · rw [h.s,List.take_of_length_le (show (hnum l).length≤k - n0 by omega),List.take_of_length_le (show (hnum l).length≤k+1 - n0 by omega)]
theorem At12.end_ (h:At12 l n0 en W wr l.length D av bv sv) (hn:(hpre l).length=n0∧en=n0+(hnum l).length) (hl:l.length≤1000000) (hr:∀ t ∈ l,R32 t.1):Md12 l W av bv sv wr:=by
 obtain ⟨A1,n1,c1,rfl,hra,hn1⟩:=h.ra
 obtain ⟨n2,hob,hn2⟩:=h.ob
 have hsum:=qAW l
 obtain ⟨A2,c2,rfl⟩:=qAN hob
 have hr':∀ X:List El,(∀ e ∈ X,e ∈ l)→∀ t ∈ tksE X,R32 t:=fun X hX t ht=>by
  obtain ⟨e,he,rfl⟩:=qGU ht;exact hr e (hX e he)
 have e1:l.take (min l.length n0)=hpre l:=by rw [Nat.min_eq_right (by omega),← hn.1,← qHM]
 have e2:(l.drop en).take (l.length - en)=hsuf l:=by rw [List.take_of_length_le (by rw [List.length_drop]; exact Nat.le_refl _),hn.2,← hn.1,← hsuf_drop]
 rw [e1] at hra
 rw [e2] at hob
 refine ⟨A1,n1,c1,A2,n2,c2,rfl,rfl,?_,⟨hra.more h.hi,by omega,hr' _ fun e he=>qGV he⟩,⟨qAZ.of_own hob,by omega,hr' _ fun e he=>qGW he⟩,h.b⟩
 rw [h.s,List.take_of_length_le (by omega)]
end
set_option maxHeartbeats 16000000 in
theorem half10 (hN:H11):H10:=by
 intro l w W g n c A b fs q at_ pad HLw hn HX hne HB hq HPD
 refine Rs.lay ?_
 iterate 239 intro _
 change Code.wp _ _ _ _ _
 have HL:=hid (HLw.out.below HX.out.b)
 conv=>arg 2; dsimp only [qC6,qE1,qDN,qDD,qCZ,qCT,qCK,qCC,qC1,qCJ,qCI,sndS,Try.f17,Option.getD]
 iterate 2 go_step
 go_cut [14,15] (Md10 W)
 case first=>
  clear hN
  go_wp2
  go_meet
  exact ⟨rfl,rfl,rfl⟩
 case rest=>
 obtain ⟨rfl,rfl,rfl⟩:=hcut
 go_step
 refine wp_mono (c:=qCL) (hN l w wc g n c A b fs q at_ pad HLw hn HX hne HB hq HPD _ ⟨rfl,rfl,rfl,rfl,rfl,rfl,rfl,rfl,rfl,rfl,rfl⟩) ?_
 intro e a w' h
 go_step
 exact h
set_option maxHeartbeats 16000000 in
theorem half11 (hN:H12):H11:=by
 intro l w W g n c A b fs q at_ pad HLw hn HX hne HB hq HPD
 refine Rs.lay ?_
 iterate 237 intro _
 change Code.wp _ _ _ _ _
 have HL:=hid (HLw.out.below HX.out.b)
 conv=>arg 2; dsimp only [qCL,qC6,qE1,qDN,qDD,qCZ,qCT,qCK,qCC,qC1,qCJ,qCI,sndS,Try.f17,Option.getD]
 iterate 2 go_step
 go_cut [16] (VMid W (.string ⟨#[]⟩))
 case first=>
  clear hN
  go_wp2
  go_meet
  exact ⟨rfl,rfl⟩
 case rest=>
 obtain ⟨rfl,rfl⟩:=hcut
 go_step
 refine wp_mono (c:=qCX) (hN l w wc g n c A b fs q at_ pad HLw hn HX hne HB hq HPD _ ⟨rfl,rfl,rfl,rfl,rfl,rfl,rfl,rfl,rfl,rfl,rfl,rfl⟩) ?_
 intro e a w' h
 go_step
 exact h
set_option maxHeartbeats 16000000 in
theorem half12 (hN:H13):H12:=by
 intro l w W g n c A b fs q at_ pad HLw hn HX hne HB hq HPD
 refine Rs.lay ?_
 iterate 236 intro _
 change Code.wp _ _ _ _ _
 have HL:=hid (HLw.out.below HX.out.b)
 conv=>arg 2; dsimp only [qCX,qCL,qC6,qE1,qDN,qDD,qCZ,qCT,qCK,qCC,qC1,qCJ,qCI,sndS,Try.f17,Option.getD]
 iterate 2 go_step
 go_cut [14,15,16] (Md12 l W)
 case first=>
  clear hN;have HNL:=hid HL.out.len;have HSUM:=hid (qAW l);have HR32:=hid (HLw.out.2.2);have HN:=hid (qHM l);have HST:=hid (At12.start l (hpre l).length ((hpre l).length+(hnum l).length) W);have HLOW:=hid (fun k h1 h2=>(qE8 l (el4 l k) (by obtain ⟨hh,he⟩:=el4_num (l:=l) (k:=k) h1 h2; rw [← he]; exact List.getElem_mem hh)));have hen0:(hpre l).length+(hnum l).length≤n:=by have:=HSUM.out; have:=HNL.out; omega
  have henl:(hpre l).length≤(hpre l).length+(hnum l).length:=Nat.le_add_right _ _;generalize hen:(hpre l).length+(hnum l).length=en at *;generalize hn0:(hpre l).length=n0 at *;have HEN:=hid hen;have HN0:=hid hn0;clear hen hn0 HB HPD
  go_wp2
  go_loopw [14,15,16,17] (fun av bv sv iv wr=>∃ (k D:Nat),iv=.int .i64 (k:Int)∧k≤n∧At12 l n0 en W wr k D av bv sv) (fun _ _ _ iv _=>n - (intOf iv).toNat)
  case atStart=>exact ⟨0,W.heap.size,rfl,Nat.zero_le _,HST.out⟩
  case round=>
   obtain ⟨k,D,rfl,hk,hat⟩:=hrel;have HAT:=hid hat;have HT:=hid (HL.out.below hat.b);clear hat HST
   by_cases hlt:k < n
   · have hll:k < l.length:=by rw [HNL.out]; exact hlt
     obtain ⟨ad,hadA,hab,c0,c1,c2,c3,hr⟩:=HT.out.at_ hlt;subst hadA;clear hr;have HLK:=hid (HLOW.out k);have HPP:=hid (fun h=>HAT.out.pad hll h ⟨HN.out,HN0.out,HEN.out.symm⟩);have HPR:=hid (fun (w':World) h h1 (v':Value) (n1:Nat)=>HAT.out.pre (w':=w') hll h h1 henl (v':=v') (n1:=n1));have HNU:=hid (fun (w':World) h h1=>HAT.out.num (w':=w') h h1 ⟨HN0.out,HEN.out.symm⟩);have HSU:=hid (fun (w':World) h h1 (v':Value) (n2:Nat)=>HAT.out.suf (w':=w') hll h henl h1 HEN.out.symm (v':=v') (n2:=n2));generalize el4 l k=el at *;obtain ⟨⟨r,q1,a⟩,p⟩:=el;dsimp only at c0 c1 c2 c3 HLK HPP HPR HNU HSU
     cases p
     · by_cases h0:k < n0
       · obtain ⟨n1,ho,hn1⟩:=HAT.out.oa (by omega)
         have HOA:=hid ho;have HBW:=hid HAT.out.b;have hsz:=HAT.out.b.size;have hg0:decide ((k:Int) < (n0:Int))=true:=decide_eq_true (by omega);clear ho
         go_wp2_with (first | go_skip | (at_builtin; go_must (refine qAY (w0:=W) rfl (.tmp 171) (.tmp 177) _ rfl Try.underlying43 W.heap.size u14 _ (tksE (l.take k)) rfl HOA.out (r,q1,a) rfl r q1 a rfl (by omega) HBW.out hsz ?_)) | fail)
         intro v' w' ho4 hb4 _
         go_wp2
         go_roundw
         case rel=>exact ⟨k+1,_,by go_num,by omega,HPR.out _ (by trivial) h0 _ _ ho4.out hn1 hb4.out⟩
         case measure=>simp [intOf]; omega
       · have hg0:decide ((k:Int) < (n0:Int))=false:=decide_eq_false (by omega)
         by_cases he:k < en
         · have hg1:decide ((k:Int) < (en:Int))=true:=decide_eq_true (by omega)
           obtain ⟨-,-,hr0,hr1⟩:=HLK.out (by omega) he;obtain ⟨x,rfl⟩:∃ x:Nat,r=(x:Int):=⟨r.toNat,by omega⟩;have hx128:x < 128:=by omega
           have hxc:isC x=true:=by rw [isC,decide_eq_true (show x < 55296 by omega)]; rfl
           have hxe:encN x=[x]:=by rw [encN,if_pos (by omega)]
           have HXE:=hid hxe;have HC:=hid (fun W=>qBB x W hxc);have hsv:=HAT.out.s;subst hsv;have hssz:(stz (chE ((hnum l).take (k - n0)))).size≤1000000:=by rw [qAK,chE,List.length_map,List.length_take]; omega
           generalize hS:stz (chE ((hnum l).take (k - n0)))=S at *;have HS:=hid hS;clear hS hr0 hr1 hxc hxe HLK
           go_wp2_with fail
           refine (HC.out _).mono ?_;rintro e w1 ⟨A1,m1,d1,rfl,ho1,hm1,hb1⟩;have HB1:=hid hb1;have hcv:=qAT ho1 (by rw [HXE.out]; intro y hy; rw [List.mem_singleton] at hy; subst hy; exact Nat.lt_trans hx128 (by decide));have hs1:(stz (encN x)).size≤4:=by rw [qAK]; exact qGD x
           clear ho1 hm1 hb1
           go_wp2
           go_roundw
           case rel=>
            refine ⟨k+1,D,by go_num,by omega,?_⟩;have:=HNU.out _ (by omega) he HB1.out;rw [← HS.out,← qEI,HXE.out];exact this
           case measure=>simp [intOf]; omega
         · have hg1:decide ((k:Int) < (en:Int))=false:=decide_eq_false (by omega)
           obtain ⟨n2,ho,hn2⟩:=HAT.out.ob;have HOB:=hid ho;have hsz:=HAT.out.hi;clear ho
           go_wp2_with (first | go_skip | (at_builtin; go_must (refine qAY (w0:=wr) rfl (.tmp 192) (.tmp 198) _ rfl Try.underlying43 D u15 _ (tksE ((l.drop en).take (k - en))) rfl HOB.out (r,q1,a) rfl r q1 a rfl (by omega) (Below.refl D wr) hsz ?_)) | fail)
           intro v' w' ho4 hb4 _
           go_wp2
           go_roundw
           case rel=>exact ⟨k+1,D,by go_num,by omega,HSU.out _ (by trivial) (by omega) _ _ ho4.out hn2 hb4.out⟩
           case measure=>simp [intOf]; omega
     · have HP2:=hid (HPP.out (by trivial))
       go_wp2_with (first | go_skip | fail)
       go_roundw
       case rel=>exact ⟨k+1,D,by go_num,by omega,HP2.out⟩
       case measure=>simp [intOf]; omega
   · obtain rfl:k=n:=by omega
     have HE:=hid (At12.end_ (D:=D) (HNL.out ▸ HAT.out) ⟨HN0.out,HEN.out.symm⟩ (by rw [HNL.out]; exact hn) HR32.out)
     go_wp2_with (first | go_skip | fail)
     go_meet
     exact HE.out
 case rest=>
 obtain ⟨A1,n1,c1,A2,n2,c2,rfl,rfl,rfl,ha1,ha2,hbc⟩:=hcut
 go_step
 refine wp_mono (c:=qDE) (hN l w wc g n c A b fs q at_ pad A1 A2 n1 c1 n2 c2 HLw hn (hid (HX.out.below hbc)) hne (hid (HB.out.below hbc HB.out.lt)) hq HPD (hid ha1) (hid ha2) _ ⟨rfl,rfl,rfl,rfl,rfl,rfl,rfl,rfl,rfl,rfl,rfl,rfl⟩) ?_
 intro e a w' h
 go_step
 exact h
def Md13 (q:Nat) (R:List Itm × Int × Int) (W:World) (v18 v19:Value) (Wc:World):Prop:=∃ X1 m1 d1 f,v18=.slice X1 m1 d1∧v19=.pointer (some ⟨f,0,none⟩)∧q < f∧Btw Wc (q+1) f X1 m1 d1 R.1∧BX Wc f #[.int .i64 R.2.1,.int .i64 R.2.2] 29∧Below W.heap.size W Wc
def Md15 (f:Nat) (R:NF × Nat) (W:World) (v20 v21:Value) (Wc:World):Prop:=∃ p,v20=.pointer (some ⟨p,0,none⟩)∧v21=.int .i64 ((R.2:Nat):Int)∧f < p∧BX Wc p (patN R.1) 26∧Below W.heap.size W Wc
set_option maxHeartbeats 16000000 in
theorem half13 (hN:H14):H13:=by
 intro l w W g n c A b fs q at_ pad A1 A2 n1 c1 n2 c2 HLw hn HX hne HB hq HPD HA1 HA2
 refine Rs.lay ?_
 iterate 236 intro _
 change Code.wp _ _ _ _ _
 have HL:=hid (HLw.out.below HX.out.b)
 conv=>arg 2; dsimp only [qDE,qCX,qCL,qC6,qE1,qDN,qDD,qCZ,qCT,qCK,qCC,qC1,qCJ,qCI,sndS,Try.f17,Option.getD]
 iterate 2 go_step
 go_cut [18,19] (Md13 q (itms (tksE (hpre l))) W)
 case first=>
  clear hN;have HC:=hid (fun W' (hb:Below W.heap.size W W')=>qG8 A1 n1 c1 _ W' (HA1.out.below hb) (by have:=HA1.out.len; have h2:=tksE_len (hpre l); have h3:=qAW l; have h4:=HL.out.len; omega));have hqW:=HB.out.lt;generalize itms (tksE (hpre l))=R at *;obtain ⟨ri,re,rp⟩:=R;clear HA1 HA2 HB HPD hne
  go_wp2_with (first
   | go_skip
   | (go_at_call 35; refine (HC.out _ (Below.refl _ _)).mono ?_; rintro e w1 ⟨X1,m1,d1,rfl,ho,hb1⟩; clear HC)
   | (refine wpList_store_row rfl 29 _ _ rfl w1.heap.size #[.int .i64 re,.int .i64 rp] rfl rfl 29 _ (BX.new w1 #[.int .i64 0,.int .i64 0] 29) (qA6 _ _) rfl (qA9 _ _) ?_)
   | fail)
  go_meet
  have hs1:=hb1.out.size;refine ⟨X1,m1,d1,w1.heap.size,rfl,rfl,by omega,?_,setRow_heap _ _ _ _ _ _ (BX.new w1 #[.int .i64 0,.int .i64 0] 29),(hb1.out.alloc hs1 _).setRow hs1 _⟩;exact ((Btw.of_ownI ho.out (by omega)).below (((Below.refl _ _).alloc (Nat.le_refl _) _)) (Nat.le_refl _)).row (.inr (Nat.le_refl _)) _
 case rest=>
 obtain ⟨X1,m1,d1,f,rfl,rfl,hf,hi1,hbf,hbc⟩:=hcut
 go_step
 refine wp_mono (c:=qDT) (hN l w wc g n c A b fs q at_ pad A2 n2 c2 X1 m1 d1 f HLw hn (hid (HX.out.below hbc)) hne (hid (HB.out.below hbc HB.out.lt)) hq HPD (hid (HA2.out.below hbc)) (hid hi1) (hid hbf) hf _ ⟨rfl,rfl,rfl,rfl,rfl,rfl,rfl,rfl,rfl,rfl,rfl,rfl⟩) ?_
 intro e a w' h
 go_step
 exact h
set_option maxHeartbeats 16000000 in
theorem half14 (hN:H15):H14:=by
 intro l w W g n c A b fs q at_ pad A2 n2 c2 X1 m1 d1 f HLw hn HX hne HB hq HPD HA2 HI1 HF hf
 refine Rs.lay ?_
 iterate 236 intro _
 change Code.wp _ _ _ _ _
 have HL:=hid (HLw.out.below HX.out.b)
 conv=>arg 2; dsimp only [qDT,qDE,qCX,qCL,qC6,qE1,qDN,qDD,qCZ,qCT,qCK,qCC,qC1,qCJ,qCI,sndS,Try.f17,Option.getD]
 iterate 2 go_step
 go_cut [] (FMid W ((itms (tksE (hpre l))).2.1=0))
 case first=>
  clear hN;have HZ0:=hid (fun (h3:(itms (tksE (hpre l))).2.1≠0)=>show halfZ fs b l=({},(itms (tksE (hpre l))).2) from halfZ_3 (b:=b) hne HPD.out h3);generalize hit:itms (tksE (hpre l))=R at *;obtain ⟨is,ie,ip⟩:=R;have y0:W.cell? ⟨f,0,none⟩=some (.int .i64 ie):=HF.out.c 0;have y1:W.cell? ⟨f,1,none⟩=some (.int .i64 ip):=HF.out.c 1;clear hit
  by_cases he:ie=0
  · have gp:(ie != 0)=false:=by simpa using he
    have HE:=hid he;clear he HZ0
    go_wp2_with (first | go_skip | fail)
    go_meet
    exact ⟨rfl,HE.out⟩
  · have gp:(ie != 0)=true:=by simpa using he
    have HE:=hid he;have HZ:=hid (HZ0.out he);clear he HZ0
    go_upto_region 47 with (first | go_skip | fail)
    have HXd:=hid HX.out.drew;have HR:=hid (HXd.out.ret dhZ (.int .i64 ie) (.int .i64 ip));refine wp_region_held_drew (S:=(fun W9:World=>W9.cell? ⟨f,0,none⟩=some (.int .i64 ie)∧W9.cell? ⟨f,1,none⟩=some (.int .i64 ip))) (by kernel_rfl) (⟨y0,y1⟩) (fun hHeld=>?_);refine' qt 0 hHeld ?_
    try simp only [pk]
    refine' qCB 1 (v:=_) rfl (by kernel_rfl) (by kernel_rfl) (by kernel_rfl) (fun _ _ _ h=>h) rfl ?y26 hHeld ?r26
    case y26=>
     intro w hSw
     try dsimp only at hSw
     have k0:=hSw.1;have k1:=hSw.2;go_simp
     try with_reducible rfl
    try simp only [pk]
    refine qp 2 fun K hK=>?_;refine wp_store_row 53 _ _ rfl g dhZ rfl rfl 53 dhZ HXd.out.bh qAL rfl qB5 ?_;refine hK.out _ _ (⟨(cell_setRow_other _ _ _ _ (by show f≠g; omega)).trans hHeld.1,(cell_setRow_other _ _ _ _ (by show f≠g; omega)).trans hHeld.2⟩) (fun hHeld=>?_);clear hK K
    try simp only [Act.put]
    refine qp 3 fun K hK=>?_;refine wp_store_row 29 _ _ rfl (g+1) #[.int .i64 ie,.int .i64 ip] rfl rfl 29 _ (qAI HXd.out.bf (by omega)) (qA6 _ _) rfl (qA9 _ _) ?_;refine hK.out _ _ (⟨(cell_setRow_other _ _ _ _ (by show f≠g+1; omega)).trans hHeld.1,(cell_setRow_other _ _ _ _ (by show f≠g+1; omega)).trans hHeld.2⟩) (fun hHeld=>?_);clear hK K
    try simp only [Act.put]
    refine wpAnyH_done (by kernel_rfl) ?_ _;clear hHeld
    go_wp2
    exact bodyPost_ret (v:=.tuple #[.agg dhZ,.agg #[.int .i64 ie,.int .i64 ip]]) (qAE Try.results17 _ _ g _ _ (0,0) _ rfl HR.out.1 Try.underlying53 rfl qAL (g+1) _ _ (0,0) _ rfl HR.out.2.1 Try.underlying29 rfl (qA6 _ _)) rfl (qAX.fault HZ.out HE.out HR.out.2.2)
 case rest=>
 obtain ⟨rfl,hi1⟩:=hcut
 go_step
 refine wp_mono (c:=qEA) (hN l w wc g n c A b fs q at_ pad A2 n2 c2 X1 m1 d1 f HLw hn HX hne HB hq HPD HA2 HI1 hi1 HF hf _ ⟨rfl,rfl,rfl,rfl,rfl,rfl,rfl,rfl,rfl,rfl,rfl,rfl⟩) ?_
 intro e a w' h
 go_step
 exact h
set_option maxHeartbeats 16000000 in
theorem half15 (hN:H16):H15:=by
 intro l w W g n c A b fs q at_ pad A2 n2 c2 X1 m1 d1 f HLw hn HX hne HB hq HPD HA2 HI1 hi1 HF hf
 refine Rs.lay ?_
 iterate 236 intro _
 change Code.wp _ _ _ _ _
 have HL:=hid (HLw.out.below HX.out.b)
 conv=>arg 2; dsimp only [qEA,qDT,qDE,qCX,qCL,qC6,qE1,qDN,qDD,qCZ,qCT,qCK,qCC,qC1,qCJ,qCI,sndS,Try.f17,Option.getD]
 iterate 2 go_step
 go_cut [20,21] (Md15 f (numZ (chE (hnum l))) W)
 case first=>
  clear hN;have HC:=hid (fun W'=>refNum_c (stz (chE (hnum l))) W' (by rw [qAK,chE,List.length_map]; have h3:=qAW l; have h4:=HL.out.len; omega));rw [qAS (chE_lt l)] at HC;have hfW:=HF.out.lt;generalize numZ (chE (hnum l))=R at *;obtain ⟨nf,ne⟩:=R;generalize stz (chE (hnum l))=S at *;have hsz:(Try.prog.info? 26).map (·.size)=some (patN nf).size:=qA3 ..;have hcs:=qA8 nf;have hzs:patZ.size=(patN nf).size:=rfl;generalize hPV:patN nf=PV at *;have HPV:=hid hPV;clear hPV HA2 HB HPD hne
  go_wp2_with (first
   | go_skip
   | (go_at_call 14; refine (HC.out _).mono ?_; rintro e w1 ⟨rfl,hb1⟩; clear HC)
   | (refine wpList_store_row rfl 26 _ _ rfl w1.heap.size PV rfl rfl 26 patZ (BX.new w1 patZ 26) hsz hzs hcs ?_)
   | fail)
  go_meet
  have hs1:=hb1.size;exact ⟨w1.heap.size,rfl,rfl,by omega,HPV.out ▸ setRow_heap _ _ _ _ _ _ (BX.new w1 patZ 26),(hb1.alloc hs1 _).setRow hs1 _⟩
 case rest=>
 obtain ⟨p,rfl,rfl,hp,hbp,hbc⟩:=hcut
 go_step
 refine wp_mono (c:=qES) (hN l w wc g n c A b fs q at_ pad A2 n2 c2 X1 m1 d1 f p HLw hn (hid (HX.out.below hbc)) hne (hid (HB.out.below hbc HB.out.lt)) hq HPD (hid (HA2.out.below hbc)) (hid (HI1.out.below hbc (Nat.le_of_lt HF.out.lt))) hi1 (hid (HF.out.below hbc HF.out.lt)) hf (hid hbp) hp _ ⟨rfl,rfl,rfl,rfl,rfl,rfl,rfl,rfl,rfl,rfl,rfl,rfl,rfl,rfl⟩) ?_
 intro e a w' h
 go_step
 exact h
set_option maxHeartbeats 16000000 in
theorem half16 (hN:H17):H16:=by
 intro l w W g n c A b fs q at_ pad A2 n2 c2 X1 m1 d1 f p HLw hn HX hne HB hq HPD HA2 HI1 hi1 HF hf HP hp
 refine Rs.lay ?_
 iterate 234 intro _
 change Code.wp _ _ _ _ _
 have HL:=hid (HLw.out.below HX.out.b)
 conv=>arg 2; dsimp only [qES,qEA,qDT,qDE,qCX,qCL,qC6,qE1,qDN,qDD,qCZ,qCT,qCK,qCC,qC1,qCJ,qCI,sndS,Try.f17,Option.getD]
 iterate 2 go_step
 go_cut [] (FMid W ((numZ (chE (hnum l))).2=0))
 case first=>
  clear hN;have hsum:=qAW l;have hll:=HL.out.len;have hnn:=List.length_pos_iff.2 hne;have hlt:(hpre l).length < n:=by omega
  obtain ⟨ad,hadA,hab,d0,d1,d2,d3,-⟩:=HLw.out.at_ hlt;subst hadA;have hgz:=HX.out.hz;have hbw:ad.block < g:=by rw [← hgz]; exact hab
  have c2:=(HX.out.b.cell (p:=⟨(ad.add ((hpre l).length * 4)).block,(ad.add ((hpre l).length * 4)).off+2,none⟩) (by show (ad.add ((hpre l).length * 4)).block < _; rw [qA7]; exact hab)).trans d2;have HZ0:=hid (fun (h4:(numZ (chE (hnum l))).2≠0)=>halfZ_4 (b:=b) hne HPD.out hi1 h4);generalize (el4 l (hpre l).length).1.2.2=ea at *;generalize (hpre l).length=n0 at *;generalize (numZ (chE (hnum l))).2=ne at *;clear d0 d1 d2 d3 HPD hab
  by_cases he:ne=0
  · subst he
    go_wp2_with (first | go_skip | fail)
    go_meet
    exact ⟨rfl,rfl⟩
  · have gp:(((ne:Nat):Int) != 0)=true:=by rw [bne_iff_ne]; omega
    have HE:=hid (show (((ne:Nat):Int))≠0 by omega);have HZ:=hid (HZ0.out he);clear he HZ0
    go_upto_region 50 with (first | go_skip | fail)
    have HXd:=hid HX.out.drew;have HR:=hid (HXd.out.ret dhZ (.int .i64 ((ne:Nat):Int)) (.int .i64 ea));refine wp_region_held_drew (S:=(fun W9:World=>W9.cell? ⟨(ad.add (n0 * 4)).block,(ad.add (n0 * 4)).off+2,none⟩=some (.int .i64 ea))) (by kernel_rfl) (c2) (fun hHeld=>?_);refine' qt 0 hHeld ?_
    try simp only [pk]
    refine' qt 1 hHeld ?_
    try simp only [pk]
    refine' qt 2 hHeld ?_
    try simp only [pk]
    refine' qt 3 hHeld ?_
    try simp only [pk]
    refine' qt 4 hHeld ?_
    try simp only [pk]
    refine' qt 5 hHeld ?_
    try simp only [pk]
    refine' qt 6 hHeld ?_
    try simp only [pk]
    refine' qt 7 hHeld ?_
    try simp only [pk]
    refine' qt 8 hHeld ?_
    try simp only [pk]
    refine qp 9 fun K hK=>?_;refine wp_store_row 53 _ _ rfl g dhZ rfl rfl 53 dhZ HXd.out.bh qAL rfl qB5 ?_;refine hK.out _ _ ((cell_setRow_other _ _ _ _ (by show (ad.add (n0 * 4)).block≠g; rw [qA7]; omega)).trans hHeld) (fun hHeld=>?_);clear hK K
    try simp only [Act.put]
    refine qp 10 fun K hK=>?_;refine wp_store_row 29 _ _ rfl (g+1) #[.int .i64 ((ne:Nat):Int),.int .i64 ea] rfl rfl 29 _ (qAI HXd.out.bf (by omega)) (qA6 _ _) rfl (qA9 _ _) ?_;refine hK.out _ _ ((cell_setRow_other _ _ _ _ (by show (ad.add (n0 * 4)).block≠g+1; rw [qA7]; omega)).trans hHeld) (fun hHeld=>?_);clear hK K
    try simp only [Act.put]
    refine wpAnyH_done (by kernel_rfl) ?_ _;clear hHeld
    go_wp2
    exact bodyPost_ret (v:=.tuple #[.agg dhZ,.agg #[.int .i64 ((ne:Nat):Int),.int .i64 ea]]) (qAE Try.results17 _ _ g _ _ (0,0) _ rfl HR.out.1 Try.underlying53 rfl qAL (g+1) _ _ (0,0) _ rfl HR.out.2.1 Try.underlying29 rfl (qA6 _ _)) rfl (qAX.fault HZ.out HE.out HR.out.2.2)
 case rest=>
 obtain ⟨rfl,hz⟩:=hcut
 go_step
 refine wp_mono (c:=qFS) (hN l w wc g n c A b fs q at_ pad A2 n2 c2 X1 m1 d1 f p HLw hn HX hne HB hq HPD HA2 HI1 hi1 HF hf HP hp hz _ ⟨rfl,rfl,rfl,rfl,rfl,rfl,rfl,rfl,rfl,rfl,rfl,rfl⟩) ?_
 intro e a w' h
 go_step
 exact h
def Md17 (q f:Nat) (R:List Itm × Int × Int) (W:World) (v22:Value) (Wc:World):Prop:=∃ X2 m2 d2 w1,v22=.slice X2 m2 d2∧Below W.heap.size W w1∧Wc=w1.setRow f #[.int .i64 R.2.1,.int .i64 R.2.2]∧Btw Wc (q+1) Wc.heap.size X2 m2 d2 R.1∧BX Wc f #[.int .i64 R.2.1,.int .i64 R.2.2] 29
def Md19 (q:Nat) (x1 x2:Value) (nf:NF) (at_ pad:Int) (long:Nat) (W Wc:World):Prop:=BX Wc q (dhV x1 x2 nf at_ pad long) 53∧Below q W Wc∧∀ k,k≠q→Wc.heap[k]? = W.heap[k]?
set_option maxHeartbeats 16000000 in
theorem half17 (hN:H18):H17:=by
 intro l w W g n c A b fs q at_ pad A2 n2 c2 X1 m1 d1 f p HLw hn HX hne HB hq HPD HA2 HI1 hi1 HF hf HP hp hz
 refine Rs.lay ?_
 iterate 236 intro _
 change Code.wp _ _ _ _ _
 have HL:=hid (HLw.out.below HX.out.b)
 conv=>arg 2; dsimp only [qFS,qES,qEA,qDT,qDE,qCX,qCL,qC6,qE1,qDN,qDD,qCZ,qCT,qCK,qCC,qC1,qCJ,qCI,sndS,Try.f17,Option.getD]
 iterate 2 go_step
 go_cut [22] (Md17 q f (itms (tksE (hsuf l))) W)
 case first=>
  clear hN;have HC:=hid (fun W' (hb:Below W.heap.size W W')=>qG8 A2 n2 c2 _ W' (HA2.out.below hb) (by have:=HA2.out.len; have h2:=tksE_len (hsuf l); have h3:=qAW l; have h4:=HL.out.len; omega));have hqW:=HB.out.lt;have hfW:=HF.out.lt;have HFb:=hid (fun w1 (hb:Below W.heap.size W w1)=>HF.out.below hb HF.out.lt);generalize itms (tksE (hpre l))=R1 at *;obtain ⟨ri1,re1,rp1⟩:=R1;generalize itms (tksE (hsuf l))=R at *;obtain ⟨ri,re,rp⟩:=R;clear HA2 HB HPD hne
  go_wp2_with (first
   | go_skip
   | (go_at_call 35; refine (HC.out _ (Below.refl _ _)).mono ?_; rintro e w1 ⟨X2,m2,d2,rfl,ho,hb1⟩; clear HC; have HF1:=hid (HFb.out w1 hb1.out))
   | (refine wpList_store_row rfl 29 _ _ rfl f #[.int .i64 re,.int .i64 rp] rfl rfl 29 _ HF1.out (qA6 _ _) rfl (qA9 _ _) ?_)
   | fail)
  go_meet
  refine ⟨X2,m2,d2,w1,rfl,hb1.out,rfl,?_,setRow_heap _ _ _ _ _ _ HF1.out⟩;have hk:=(Btw.of_ownI ho.out (Nat.le_refl _)).row (f:=f) (.inl hfW) #[.int .i64 re,.int .i64 rp];exact hk.mono (by omega) ((Below.refl 0 w1).setRow (Nat.zero_le f) _).size (Nat.le_refl _)
 case rest=>
 obtain ⟨X2,m2,d2,w1,rfl,hb1,rfl,hi2,hbf⟩:=hcut
 have hbq:Below f W (w1.setRow f #[.int .i64 (itms (tksE (hsuf l))).2.1,.int .i64 (itms (tksE (hsuf l))).2.2]):=(hb1.mono (Nat.le_of_lt HF.out.lt)).setRow (Nat.le_refl _) _
 go_step
 refine wp_mono (c:=qG4) (hN l w _ g n c A b fs q at_ pad X1 m1 d1 f p X2 m2 d2 HLw hn (hid (HX.out.keep (hbq.mono (by omega)))) hne (hid (HB.out.below hbq hf)) hq HPD (hid hbf) (hid (HI1.out.below hbq (Nat.le_refl _))) hi1 hf (hid (qAI (HP.out.below hb1 HP.out.lt) (by omega))) hp hz (hid hi2) _ ⟨rfl,rfl,rfl,rfl,rfl,rfl,rfl,rfl,rfl,rfl,rfl,rfl⟩) ?_
 intro e a w' h
 go_step
 exact h
set_option maxHeartbeats 16000000 in
theorem half18 (hN:H19):H18:=by
 intro l w W g n c A b fs q at_ pad X1 m1 d1 f p X2 m2 d2 HLw hn HX hne HB hq HPD HF HI1 hi1 hf HP hp hz HI2
 refine Rs.lay ?_
 iterate 236 intro _
 change Code.wp _ _ _ _ _
 have HL:=hid (HLw.out.below HX.out.b)
 conv=>arg 2; dsimp only [qG4,qFS,qES,qEA,qDT,qDE,qCX,qCL,qC6,qE1,qDN,qDD,qCZ,qCT,qCK,qCC,qC1,qCJ,qCI,sndS,Try.f17,Option.getD]
 iterate 2 go_step
 go_cut [] (FMid W ((itms (tksE (hsuf l))).2.1=0))
 case first=>
  clear hN;have HZ0:=hid (fun (h3:(itms (tksE (hsuf l))).2.1≠0)=>show halfZ fs b l=({},(itms (tksE (hsuf l))).2) from halfZ_5 (b:=b) hne HPD.out hi1 hz h3);generalize hit:itms (tksE (hsuf l))=R at *;obtain ⟨is,ie,ip⟩:=R;have y0:W.cell? ⟨f,0,none⟩=some (.int .i64 ie):=HF.out.c 0;have y1:W.cell? ⟨f,1,none⟩=some (.int .i64 ip):=HF.out.c 1;clear hit
  by_cases he:ie=0
  · have gp:(ie != 0)=false:=by simpa using he
    have HE:=hid he;clear he HZ0
    go_wp2_with (first | go_skip | fail)
    go_meet
    exact ⟨rfl,HE.out⟩
  · have gp:(ie != 0)=true:=by simpa using he
    have HE:=hid he;have HZ:=hid (HZ0.out he);clear he HZ0
    go_upto_region 53 with (first | go_skip | fail)
    have HXd:=hid HX.out.drew;have HR:=hid (HXd.out.ret dhZ (.int .i64 ie) (.int .i64 ip));refine wp_region_held_drew (S:=(fun W9:World=>W9.cell? ⟨f,0,none⟩=some (.int .i64 ie)∧W9.cell? ⟨f,1,none⟩=some (.int .i64 ip))) (by kernel_rfl) (⟨y0,y1⟩) (fun hHeld=>?_);refine' qt 0 hHeld ?_
    try simp only [pk]
    refine' qCB 1 (v:=_) rfl (by kernel_rfl) (by kernel_rfl) (by kernel_rfl) (fun _ _ _ h=>h) rfl ?y37 hHeld ?r37
    case y37=>
     intro w hSw
     try dsimp only at hSw
     have k0:=hSw.1;have k1:=hSw.2;go_simp
     try with_reducible rfl
    try simp only [pk]
    refine qp 2 fun K hK=>?_;refine wp_store_row 53 _ _ rfl g dhZ rfl rfl 53 dhZ HXd.out.bh qAL rfl qB5 ?_;refine hK.out _ _ (⟨(cell_setRow_other _ _ _ _ (by show f≠g; omega)).trans hHeld.1,(cell_setRow_other _ _ _ _ (by show f≠g; omega)).trans hHeld.2⟩) (fun hHeld=>?_);clear hK K
    try simp only [Act.put]
    refine qp 3 fun K hK=>?_;refine wp_store_row 29 _ _ rfl (g+1) #[.int .i64 ie,.int .i64 ip] rfl rfl 29 _ (qAI HXd.out.bf (by omega)) (qA6 _ _) rfl (qA9 _ _) ?_;refine hK.out _ _ (⟨(cell_setRow_other _ _ _ _ (by show f≠g+1; omega)).trans hHeld.1,(cell_setRow_other _ _ _ _ (by show f≠g+1; omega)).trans hHeld.2⟩) (fun hHeld=>?_);clear hK K
    try simp only [Act.put]
    refine wpAnyH_done (by kernel_rfl) ?_ _;clear hHeld
    go_wp2
    exact bodyPost_ret (v:=.tuple #[.agg dhZ,.agg #[.int .i64 ie,.int .i64 ip]]) (qAE Try.results17 _ _ g _ _ (0,0) _ rfl HR.out.1 Try.underlying53 rfl qAL (g+1) _ _ (0,0) _ rfl HR.out.2.1 Try.underlying29 rfl (qA6 _ _)) rfl (qAX.fault HZ.out HE.out HR.out.2.2)
 case rest=>
 obtain ⟨rfl,hi2⟩:=hcut
 go_step
 refine wp_mono (c:=qHN) (hN l w wc g n c A b fs q at_ pad X1 m1 d1 f p X2 m2 d2 HLw hn HX hne HB hq HPD HI1 hi1 hf HP hp hz HI2 hi2 _ ⟨rfl,rfl,rfl,rfl,rfl,rfl,rfl,rfl,rfl,rfl,rfl⟩) ?_
 intro e a w' h
 go_step
 exact h
set_option maxHeartbeats 16000000 in
theorem half19 (hN:H20):H19:=by
 intro l w W g n c A b fs q at_ pad X1 m1 d1 f p X2 m2 d2 HLw hn HX hne HB hq HPD HI1 hi1 hf HP hp hz HI2 hi2
 refine Rs.lay ?_
 iterate 237 intro _
 change Code.wp _ _ _ _ _
 have HL:=hid (HLw.out.below HX.out.b)
 conv=>arg 2; dsimp only [qHN,qG4,qFS,qES,qEA,qDT,qDE,qCX,qCL,qC6,qE1,qDN,qDD,qCZ,qCT,qCK,qCC,qC1,qCJ,qCI,sndS,Try.f17,Option.getD]
 iterate 2 go_step
 go_cut [] (Md19 q (.slice X1 m1 d1) (.slice X2 m2 d2) (numZ (chE (hnum l))).1 at_ pad (hnum l).length W)
 case first=>
  clear hN;have hsl:(stz (chE (hnum l))).size=(hnum l).length:=by rw [qAK,chE,List.length_map]
  generalize (numZ (chE (hnum l))).1=nf at *;generalize (hnum l).length=len at *;generalize stz (chE (hnum l))=S at *;have hsz:(Try.prog.info? 26).map (·.size)=some (patN nf).size:=qA3 ..;have hcs:=qA8 nf;generalize hPV:patN nf=PV at *;have HPV:=hid hPV;have h20:PV.size=20:=by rw [← hPV]; rfl
  clear hPV HPD;have HXq:=hid (show BX W.drew q _ _ from HB.out);refine wp_region_held_drew (S:=(fun W9:World=>Hid (BX W9 p PV 26))) (by kernel_rfl) (hid (show BX W.drew p _ _ from HP.out)) (fun hHeld=>?_);refine' qt 0 hHeld ?_
  try simp only [pk]
  refine' qt 1 hHeld ?_
  try simp only [pk]
  refine' qCB 2 (v:=_) rfl (by kernel_rfl) (by kernel_rfl) (by kernel_rfl) (fun _ _ _ h=>h) rfl ?y40 hHeld ?r40
  case y40=>
   intro w hSw
   try dsimp only at hSw
   refine qE7 26 (Operand.tmp 20) ?_ p ?_ 26 _ (0,0) _ hSw.out Try.underlying26 rfl hsz
   · rfl
   · rfl
  try simp only [pk]
  refine' qt 3 hHeld ?_
  try simp only [pk]
  refine' qt 4 hHeld ?_
  try simp only [pk]
  refine' qt 5 hHeld ?_
  try simp only [pk]
  have x0:W.drew.cell? ⟨q,0,none⟩=some (.slice none 0 0):=HXq.out.c 0;have f0:=HXq.out.fr 0;refine qp 6 fun K hK=>?_
  go_wp2_with fail
  refine hK.out _ _ (hid ((heap_setCell_other _ ⟨q,_,none⟩ p _ (by show p≠q; omega)).trans hHeld.out)) (fun hHeld=>?_);clear hK K
  try simp only [pk]
  clear x0 f0;refine' qt 7 hHeld ?_
  try simp only [pk]
  have HX1:=hid (show BX (W.setCell ⟨q,0,none⟩ (.slice X1 m1 d1)).drew q _ _ from heap_setCell_same _ q 0 _ _ (.slice X1 m1 d1) HXq.out);have x1:=BX.v HX1.out 1 (mids_1 _ _ _);have f1:=BX.fr HX1.out 1;refine qp 8 fun K hK=>?_
  go_wp2_with fail
  refine hK.out _ _ (hid ((heap_setCell_other _ ⟨q,_,none⟩ p _ (by show p≠q; omega)).trans hHeld.out)) (fun hHeld=>?_);clear hK K
  try simp only [pk]
  clear x1 f1;refine' qt 9 hHeld ?_
  try simp only [pk]
  have HX2:=hid (show BX ((W.setCell ⟨q,0,none⟩ (.slice X1 m1 d1)).setCell ⟨q,1,none⟩ (.slice X2 m2 d2)).drew q _ _ from heap_setCell_same _ q 1 _ _ (.slice X2 m2 d2) HX1.out);have HO2:=hid (show ∀ k,k≠q→((W.setCell ⟨q,0,none⟩ (.slice X1 m1 d1)).setCell ⟨q,1,none⟩ (.slice X2 m2 d2)).drew.heap[k]? = W.heap[k]? from fun k hk=>(heap_setCell_other _ ⟨q,1,none⟩ k _ hk).trans (heap_setCell_other W ⟨q,0,none⟩ k _ hk));have HB2:=hid (show Below q W ((W.setCell ⟨q,0,none⟩ (.slice X1 m1 d1)).setCell ⟨q,1,none⟩ (.slice X2 m2 d2)).drew from (((Below.refl q W).setCell (p:=⟨q,0,none⟩) (Nat.le_refl q) _).setCell (p:=⟨q,1,none⟩) (Nat.le_refl q) _).drew);generalize ((W.setCell ⟨q,0,none⟩ (.slice X1 m1 d1)).setCell ⟨q,1,none⟩ (.slice X2 m2 d2)).drew=V2 at *;refine qp 10 fun K hK=>?_;refine wp_store_mid 26 _ _ rfl q 2 PV rfl rfl (BX.there HX2.out (by rw [h20]; exact mids_2 _ _ _ _)) hsz hcs ?_;refine hK.out _ _ (hid ((heap_mid (by omega) _ _ _).trans hHeld.out)) (fun hHeld=>?_);clear hK K
  try simp only [Act.put]
  have HX3:=hid (BX.mid PV.toList 2 HX2.out);have HO3:=hid (fun k hk=>(heap_mid hk PV.toList V2 2).trans (HO2.out k hk));have HB3:=hid (Below.mid (Nat.le_refl q) PV.toList 2 HB2.out);rw [← HPV.out] at HX3;have x3:=BX.v HX3.out 24 (mids_24 _ _ _ _ _);have f3:=BX.fr HX3.out 24;rw [HPV.out] at x3 f3 HX3;generalize V2.setCells q 2 PV.toList=V3 at *;refine' qt 11 hHeld ?_
  try simp only [pk]
  refine qp 12 fun K hK=>?_
  go_wp2_with fail
  refine hK.out _ _ (hid ((heap_setCell_other _ ⟨q,_,none⟩ p _ (by show p≠q; omega)).trans hHeld.out)) (fun hHeld=>?_);clear hK K
  try simp only [pk]
  refine wpAnyH_done (by kernel_rfl) ?_ _;clear hHeld
  go_wp2
  go_meet
  refine ⟨?_,HB3.out.setCell (p:=⟨q,24,none⟩) (Nat.le_refl q) _,fun k hk=>(heap_setCell_other _ ⟨q,24,none⟩ k _ hk).trans (HO3.out k hk)⟩;rw [← mids_eq,HPV.out];exact heap_setCell_same _ q 24 _ _ _ HX3.out
 case rest=>
 obtain ⟨hb9,hbb,hoth⟩:=hcut
 go_step
 refine wp_mono (c:=tlh_20) (hN l w wc g n c A b fs q at_ pad X1 m1 d1 X2 m2 d2 W.heap.size HLw hn (hid (HX.out.keep (hbb.mono (by omega)))) (hid (halfZ_6 hne HPD.out hi1 hz hi2)) hq (hid hb9) (hid ((HI1.out.keep hbb.size (fun k h1 h2=>hoth k (by omega))).mono (Nat.le_refl _) (by have:=HI1.out.hi_; omega) (by have:=hbb.size; omega))) (hid (HI2.out.keep hbb.size (fun k h1 h2=>hoth k (by omega)))) _ ⟨rfl,rfl,rfl,rfl,rfl,rfl,rfl⟩) ?_
 intro e a w' h
 go_step
 exact h
set_option maxHeartbeats 16000000 in
theorem half20:H20:=by
 intro l w W g n c A b fs q at_ pad X1 m1 d1 X2 m2 d2 f HLw hn HX hZ hq HB HI1 HI2
 refine Rs.lay ?_
 iterate 241 intro _
 change Code.wp _ _ _ _ _
 have HL:=hid (HLw.out.below HX.out.b)
 conv=>arg 2; dsimp only [tlh_20,qHN,qG4,qFS,qES,qEA,qDT,qDE,qCX,qCL,qC6,qE1,qDN,qDD,qCZ,qCT,qCK,qCC,qC1,qCJ,qCI,sndS,Try.f17,Option.getD]
 have hsz:(Try.prog.info? 53).map (·.size)=some (dhV (.slice X1 m1 d1) (.slice X2 m2 d2) (numZ (chE (hnum l))).1 at_ pad (hnum l).length).size:=dh_size ..
 have hcs:=qGZ X1 X2 m1 d1 m2 d2 (numZ (chE (hnum l))).1 at_ pad (hnum l).length
 have hzs:dhZ.size=(dhV (.slice X1 m1 d1) (.slice X2 m2 d2) (numZ (chE (hnum l))).1 at_ pad (hnum l).length).size:=rfl
 generalize hDV:dhV (.slice X1 m1 d1) (.slice X2 m2 d2) (numZ (chE (hnum l))).1 at_ pad (hnum l).length=DV at *
 have HDV:=hid hDV
 clear hDV
 have HR:=hid (HX.out.ret DV (.int .i64 0) (.int .i64 0))
 have HS1:Hid (BX (W.setRow g DV) (g+1) #[.int .i64 0,.int .i64 0] 29):=hid (qAI HX.out.bf (by omega))
 have hgz:=HX.out.hz
 have HMB:∀ {A:Option Addr} {n c:Nat} {is:List Itm},Btw W (q+1) f A n c is→Btw ((W.setRow g DV).setRow (g+1) #[.int .i64 0,.int .i64 0]) w.heap.size ((W.setRow g DV).setRow (g+1) #[.int .i64 0,.int .i64 0]).heap.size A n c is:=fun h=>
  have h1:=(h.row (.inl (show g < q+1 by omega)) DV).row (.inl (show g+1 < q+1 by omega)) #[.int .i64 0,.int .i64 0]
  h1.mono (by omega) h1.hi_ (Nat.le_refl _)
 go_wp2_with (first
  | go_skip
  | (refine wpList_load_row rfl 53 _ rfl q rfl 53 DV (0,0) _ HB.out Try.underlying53 rfl hsz ?_)
  | (refine wpList_store_row rfl 53 _ _ rfl g DV rfl rfl 53 dhZ HX.out.bh hsz hzs hcs ?_)
  | (refine wpList_store_row rfl 29 _ _ rfl (g+1) #[.int .i64 0,.int .i64 0] rfl rfl 29 _ HS1.out (qA6 _ _) rfl (qA9 _ _) ?_)
  | fail)
 exact bodyPost_ret (v:=.tuple #[.agg DV,.agg #[.int .i64 0,.int .i64 0]]) (qAE Try.results17 _ _ g _ _ (0,0) _ rfl HR.out.1 Try.underlying53 rfl hsz (g+1) _ _ (0,0) _ rfl HR.out.2.1 Try.underlying29 rfl (qA6 _ _)) rfl
  ⟨DV,by rw [hZ.out],hid (fun h=>absurd (by rw [hZ.out]) h),hid (fun _=>by rw [hZ.out]; exact ⟨X1,m1,d1,X2,m2,d2,HDV.out.symm,HMB HI1.out,HMB HI2.out⟩),HR.out.2.2⟩
theorem half2_all:H2:=half2 (half3 (half4 (half5 (half6 (half7 (half8 (half9 (half10 (half11 (half12 (half13 (half14 (half15 (half16 (half17 (half18 (half19 half20)))))))))))))))))
set_option maxHeartbeats 4000000 in
theorem qHO (l:List El) (A:Option Addr) (n c:Nat) (b:Int) (fs:Bool) (w:World) (h:Rls w A n l) (hn:n≤1000000):Calls Try.prog 17 #[.slice A n c,.int .i64 b,.bool fs] w fun e w'=>qAX l fs b w e w':=by
 have HX:=hid (RH.new w)
 go_enter Try.func17,Try.ntmps17
 go_upto_region 1 with fail
 change Code.wp _ _ _ _ ((w.alloc (.cells dhZ 53)).alloc (.cells #[.int .i64 0,.int .i64 0] 29))
 generalize (w.alloc (.cells dhZ 53)).alloc (.cells #[.int .i64 0,.int .i64 0] 29)=W0 at *
 go_cut [8] (VMid W0 (.int .i64 0))
 case first=>
  go_wp2
  go_meet
  exact ⟨rfl,rfl⟩
 case rest=>
 obtain ⟨rfl,rfl⟩:=hcut
 go_step
 refine wp_mono (c:=qC1) (half2_all l w wc w.heap.size n c A b fs (hid h) hn HX _ ⟨rfl,rfl,rfl,rfl,rfl,rfl,rfl⟩) ?_
 intro e a w' h
 go_step
 exact h
end Go.Proofs.Ytohfadegildnaaa
