import Derived.Deep.LoopGhost
import Derived.Deep.CutBlock
import Derived.Deep.DeepCutAuto
import Derived.Test.YtnoeonaajefajaaGreatDoorQSJ
import Derived.Test.YtnoeonaajefajaaGreatDoorQSK
import Derived.Test.YtnoeonaajefajaaGreatDoorQSD
import Derived.Test.YtnoeonaajefajaaGreatDoorQSF
import Derived.Test.YtnoeonaajefajaaGreatDoorQZB
set_option linter.all false
set_option maxRecDepth 100000
set_option linter.unusedVariables false
namespace Go.Proofs.YtnoeonaajefajaaGreatDoor
open Go.RowKit
open Lib (hid)
def Mc17 (s:ByteArray) (P:Pt) (W Wc:World):Prop:=compZ (bts s)=(P,0,0)∧Below W.heap.size W Wc
theorem PtB.below {g:Nat} {w w':World} {PV:Array Value} {p:Pt} (h:PtB g w PV p) (hb:Below w.heap.size w w'):PtB g w' PV p:=by
 obtain ⟨A0,n0,c0,A1,n1,c1,A3,n3,c3,A4,n4,c4,h0,h1,h3,h4,e,k0,k1,k3,k4⟩:=h
 exact ⟨A0,n0,c0,A1,n1,c1,A3,n3,c3,A4,n4,c4,h0,h1,h3,h4,e,k0.below hb k0.hi_,k1.below hb k1.hi_,k3.below hb k3.hi_,k4.below hb k4.hi_⟩
theorem PtB.aff {g:Nat} {w:World} {PV:Array Value} {p:Pt} (h:PtB g w PV p):Aff w PV p.pre p.suf p.npre p.nsuf:=by
 obtain ⟨A0,n0,c0,A1,n1,c1,A3,n3,c3,A4,n4,c4,h0,h1,h3,h4,rfl,k0,k1,k3,k4⟩:=h
 exact ⟨qA0 ..,⟨_,_,_,rfl,k0.its,k0.cp.1⟩,⟨_,_,_,rfl,k1.its,k1.cp.1⟩,⟨_,_,_,rfl,k3.its,k3.cp.1⟩,⟨_,_,_,rfl,k4.its,k4.cp.1⟩⟩
theorem PtB.cells {g:Nat} {w:World} {PV:Array Value} {p:Pt} (h:PtB g w PV p):patZ.size=PV.size∧PV.all (·.oneCell')=true:=by
 obtain ⟨A0,n0,c0,A1,n1,c1,A3,n3,c3,A4,n4,c4,h0,h1,h3,h4,rfl,k0,k1,k3,k4⟩:=h
 exact ⟨rfl,qE4 ..⟩
theorem PtB.ptv {g:Nat} {w:World} {PV:Array Value} {p:Pt} (h:PtB g w PV p) (cs ds:Array Value):Ptv ((w.setRow g cs).setRow (g+1) ds) PV p:=by
 obtain ⟨A0,n0,c0,A1,n1,c1,A3,n3,c3,A4,n4,c4,h0,h1,h3,h4,e,k0,k1,k3,k4⟩:=h
 exact ⟨A0,n0,c0,A1,n1,c1,A3,n3,c3,A4,n4,c4,e,((k0.row (.inl (by omega)) _).row (.inl (by omega)) _).its,((k1.row (.inl (by omega)) _).row (.inl (by omega)) _).its,((k3.row (.inl (by omega)) _).row (.inl (by omega)) _).its,((k4.row (.inl (by omega)) _).row (.inl (by omega)) _).its⟩
theorem mix_any (p:Pt):p.mix=if anyK 4 p.pre p.suf p.npre p.nsuf && anyK 5 p.pre p.suf p.npre p.nsuf then ({},6,0) else (p,0,0):=rfl
set_option maxHeartbeats 16000000 in
theorem comp17 (hN:C18):C17:=by
 intro s w W g p PV P hs HX HP hp HPB HC
 refine Rs.lay ?_
 iterate 177 intro _
 change Code.wp _ _ _ _ _
 conv=>arg 2; dsimp only [qMA,qJQ,qIS,qHC,qGP,qFG,qEY,qEB,qH4,qGO,qFX,qF8,qEX,qED,qE7,qDP,qDE,qE6,sndS,Tryz.f14,Option.getD]
 iterate 2 go_step
 go_cut [] (Mc17 s P W)
 case first=>
  clear hN;have HAF:=hid HPB.out.aff;have hsz:=HPB.out.aff.1;have HMX:=hid (HC.out.trans (mix_any P));have HC4:=hid (fun (W9:World) (hb:Below W.heap.size W W9)=>signs_c 4 PV _ _ _ _ W9 (HAF.out.below hb));have HC5:=hid (fun (W9:World) (hb:Below W.heap.size W W9)=>signs_c 5 PV _ _ _ _ W9 (HAF.out.below hb));generalize anyK 4 P.pre P.suf P.npre P.nsuf=a4 at *;generalize anyK 5 P.pre P.suf P.npre P.nsuf=a5 at *;have hbo:=HP.out;have hpW:=HP.out.lt;have HPo:=hid hbo;clear HAF HPB HC
  cases a4
  · have HE:=hid (HMX.out.trans (if_neg (by simp)))
    go_wp2_with (first | go_skip | (refine wpList_load_row rfl 24 _ rfl p rfl 24 PV (0,0) _ hbo Tryz.underlying24 rfl hsz ?_) | (go_at_call 40; with_reducible refine (HC4.out _ (Below.refl _ _)).mono ?_; rintro e w1 ⟨n4,rfl,hn4,hb4⟩; obtain rfl:n4=0:=(by have:=hn4.out; simpa using this); have HB1:=hid hb4; clear hbo hb4) | fail)
    go_meet
    exact ⟨HE.out,HB1.out⟩
  · cases a5
    · have HE:=hid (HMX.out.trans (if_neg (by decide)))
      go_wp2_with (first | go_skip | (refine wpList_load_row rfl 24 _ rfl p rfl 24 PV (0,0) _ hbo Tryz.underlying24 rfl hsz ?_) | (refine qAN 24 (Operand.tmp 13) rfl p rfl 24 PV (0,0) _ hbo Tryz.underlying24 rfl hsz rfl rfl rfl rfl ?_) | (go_at_call 40; with_reducible refine (HC4.out _ (Below.refl _ _)).mono ?_; rintro e w1 ⟨n4,rfl,hn4,hb4⟩; have hp4:0 < n4:=(hn4.out.2 (by trivial)); have HB1:=hid hb4; clear hbo; have hbo:=HPo.out.below hb4 hpW; clear hb4) | (go_at_call 40; with_reducible refine (HC5.out _ HB1.out).mono ?_; rintro e w2 ⟨n5,rfl,hn5,hb5⟩; obtain rfl:n5=0:=(by have:=hn5.out; simpa using this); have HB2:=hid (HB1.out.trans (hb5.mono HB1.out.size)); clear hbo hb5) | fail)
      go_meet
      exact ⟨HE.out,HB2.out⟩
    · have HZ:=hid (HMX.out.trans (if_pos (by decide)))
      go_wp2_with (first | go_skip | (refine wpList_load_row rfl 24 _ rfl p rfl 24 PV (0,0) _ hbo Tryz.underlying24 rfl hsz ?_) | (refine qAN 24 (Operand.tmp 13) rfl p rfl 24 PV (0,0) _ hbo Tryz.underlying24 rfl hsz rfl rfl rfl rfl ?_) | (go_at_call 40; with_reducible refine (HC4.out _ (Below.refl _ _)).mono ?_; rintro e w1 ⟨n4,rfl,hn4,hb4⟩; have hp4:0 < n4:=(hn4.out.2 (by trivial)); have HB1:=hid hb4; clear hbo; have hbo:=HPo.out.below hb4 hpW; clear hb4) | (go_at_call 40; with_reducible refine (HC5.out _ HB1.out).mono ?_; rintro e w2 ⟨n5,rfl,hn5,hb5⟩; have hp5:0 < n5:=(hn5.out.2 (by trivial)); have HB2:=hid (HB1.out.trans (hb5.mono HB1.out.size)); clear hbo hb5; have HXe:=hid (HX.out.below HB2.out); have HS1:=hid (qAX (g:=g) (cs:=patZ) HXe.out.bf (by omega))) | (refine wpList_store_row rfl 24 _ _ rfl g patZ rfl rfl 24 patZ HXe.out.bp (qA0 _ _ _ _ _ {} _ _ _) rfl (qA5 {}) ?_) | (refine wpList_store_row rfl 27 _ _ rfl (g+1) #[.int .i64 6,.int .i64 0] rfl rfl 27 _ HS1.out (qA3 _ _) rfl (qA6 _ _) ?_) | fail)
      have HR:=hid (HXe.out.ret patZ (.int .i64 6) (.int .i64 0));exact bodyPost_ret (v:=.tuple #[.agg patZ,.agg #[.int .i64 6,.int .i64 0]]) (qAC Tryz.results14 _ _ g _ _ (0,0) _ rfl HR.out.1 Tryz.underlying24 rfl (qA0 _ _ _ _ _ {} _ _ _) (g+1) _ _ (0,0) _ rfl HR.out.2.1 Tryz.underlying27 rfl (qA3 _ _)) rfl (qCA.fault HZ.out (by decide) HR.out.2.2)
 case rest=>
 obtain ⟨hE,hbc⟩:=hcut
 go_step
 refine wp_mono (c:=tlc_18) (hN s w wc g p PV P hs (hid (HX.out.below hbc)) (hid (HP.out.below hbc HP.out.lt)) hp (hid (HPB.out.below hbc)) (hid hE) _ ⟨rfl,rfl,rfl,rfl⟩) ?_
 intro e a w' h
 go_step
 exact h
set_option maxHeartbeats 16000000 in
theorem comp18:C18:=by
 intro s w W g p PV P hs HX HP hp HPB HC
 refine Rs.lay ?_
 iterate 177 intro _
 change Code.wp _ _ _ _ _
 conv=>arg 2; dsimp only [tlc_18,qMA,qJQ,qIS,qHC,qGP,qFG,qEY,qEB,qH4,qGO,qFX,qF8,qEX,qED,qE7,qDP,qDE,qE6,sndS,Tryz.f14,Option.getD]
 have hsz:=HPB.out.aff.1
 obtain ⟨hzs,hcs⟩:=HPB.out.cells
 have hbo:=HP.out
 have HR:=hid (HX.out.ret PV (.int .i64 0) (.int .i64 0))
 have HS1:Hid (BX (W.setRow g PV) (g+1) #[.int .i64 0,.int .i64 0] 27):=hid (qAX HX.out.bf (by omega))
 go_wp2_with (first
  | go_skip
  | (refine wpList_load_row rfl 24 _ rfl p rfl 24 PV (0,0) _ hbo Tryz.underlying24 rfl hsz ?_)
  | (refine wpList_store_row rfl 24 _ _ rfl g PV rfl rfl 24 patZ HX.out.bp hsz hzs hcs ?_)
  | (refine wpList_store_row rfl 27 _ _ rfl (g+1) #[.int .i64 0,.int .i64 0] rfl rfl 27 _ HS1.out (qA3 _ _) rfl (qA6 _ _) ?_)
  | fail)
 exact bodyPost_ret (v:=.tuple #[.agg PV,.agg #[.int .i64 0,.int .i64 0]]) (qAC Tryz.results14 _ _ g _ _ (0,0) _ rfl HR.out.1 Tryz.underlying24 rfl hsz (g+1) _ _ (0,0) _ rfl HR.out.2.1 Tryz.underlying27 rfl (qA3 _ _)) rfl
  ⟨PV,by rw [HC.out],hid (fun h=>absurd (by rw [HC.out]) h),hid (fun _=>by rw [HC.out]; exact HPB.out.ptv _ _),HR.out.2.2⟩
theorem comp1_all:C1:=comp1 (comp2 (comp3 (comp4 (comp5 (comp6 (comp7 (comp8 (comp9 (comp10 (comp11 (comp12 (comp13 (comp14 (comp15 (comp16 (comp17 comp18))))))))))))))))
def Mc0 (w:World) (v2 v3:Value) (Wc:World):Prop:=v2=.pointer (some ⟨w.heap.size,0,none⟩)∧v3=.pointer (some ⟨w.heap.size+1,0,none⟩)∧Wc=(w.alloc (.cells patZ 24)).alloc (.cells #[.int .i64 0,.int .i64 0] 27)
set_option maxHeartbeats 4000000 in
theorem qMC (s:ByteArray) (w:World) (hs:s.size≤1000000000):Calls Tryz.prog 14 #[.string s] w fun e w'=>qCA s w e w':=by
 have HX:=hid (RC.new w)
 go_enter Tryz.func14,Tryz.ntmps14
 iterate 2 go_step
 go_cut [2,3] (Mc0 w)
 case first=>
  go_wp2
  go_meet
  exact ⟨rfl,rfl,rfl⟩
 case rest=>
 obtain ⟨rfl,rfl,rfl⟩:=hcut
 go_step
 refine wp_mono (c:=qDE) (comp1_all s w _ w.heap.size hs HX _ ⟨rfl,rfl,rfl,rfl⟩) ?_
 intro e a w' h
 go_step
 exact h
theorem Ptv.sz {w:World} {PV:Array Value} {p:Pt} (h:Ptv w PV p):(Tryz.prog.info? 24).map (·.size)=some PV.size∧patZ.size=PV.size∧(PV.all (·.oneCell'))=true:=by
 obtain ⟨A0,n0,c0,A1,n1,c1,A3,n3,c3,A4,n4,c4,rfl,-⟩:=h
 exact ⟨qA0 ..,rfl,qE4 ..⟩
theorem Ptv.nil (w:World):Ptv w patZ {}:=⟨none,0,0,none,0,0,none,0,0,none,0,0,rfl,qKC w,qKC w,qKC w,qKC w⟩
theorem qLA (s:ByteArray) (w:World) (hs:s.size≤10000000000) (hM:Mw w):Calls Tryz.prog 19 #[.string s] w fun x w'=>∃ PV,x=.returned (.tuple #[.agg PV,.agg #[.int .i64 (compZ (bts s)).2.1,.int .i64 (compZ (bts s)).2.2]])∧Hid (Ptv w' PV (compZ (bts s)).1)∧Below w.heap.size w w':=by
 refine (compile_c s w hs hM).mono ?_
 rintro e w' ⟨PV,rfl,h1,h2,h3⟩
 refine ⟨PV,rfl,?_,h3.out⟩
 by_cases h:(compZ (bts s)).2.1=0
 · exact hid (h2.out h).v
 · rw [h1.out h,(qCT (qAO s)).2.1 h]; exact hid (Ptv.nil w')
theorem rcomp_v (s:ByteArray) (w:World) (hs:s.size≤1000000000):Calls Tryz.prog 14 #[.string s] w fun x w'=>∃ PV,x=.returned (.tuple #[.agg PV,.agg #[.int .i64 (compZ (bts s)).2.1,.int .i64 (compZ (bts s)).2.2]])∧Hid (Ptv w' PV (compZ (bts s)).1)∧Below w.heap.size w w':=by
 refine (qMC s w hs).mono ?_
 rintro e w' ⟨PV,rfl,h1,h2,h3⟩
 refine ⟨PV,rfl,?_,h3⟩
 by_cases h:(compZ (bts s)).2.1=0
 · exact hid (h2.out h)
 · rw [h1.out h,(qCT (qAO s)).2.1 h]; exact hid (Ptv.nil w')
structure PB (w:World) (a:Nat) (PV:Array Value) (e p:Int) (q:Pt):Prop where
 bp:BX w a PV 24
 bf:BX w (a+1) #[.int .i64 e,.int .i64 p] 27
 pt:Ptv w PV q
theorem PB.below {w w':World} {a:Nat} {PV:Array Value} {e p:Int} {q:Pt} (h:PB w a PV e p q) (hb:Below w.heap.size w w'):PB w' a PV e p q:=
 ⟨h.bp.below hb h.bp.lt,h.bf.below hb h.bf.lt,h.pt.below hb⟩
def McP (q:Pt) (e p:Int) (W:World) (v u:Value) (Wc:World):Prop:=∃ a PV,v=.pointer (some ⟨a,0,none⟩)∧u=.pointer (some ⟨a+1,0,none⟩)∧PB Wc a PV e p q∧Below W.heap.size W Wc
theorem qJR {W w1:World} {PV:Array Value} {e p:Int} {q:Pt} (hp:Ptv w1 PV q) (hb:Below W.heap.size W w1) :
 McP q e p W (.pointer (some ⟨w1.heap.size,0,none⟩)) (.pointer (some ⟨w1.heap.size+1,0,none⟩)) ((((w1.alloc (.cells patZ 24)).alloc (.cells #[.int .i64 0,.int .i64 0] 27)).setRow w1.heap.size PV).setRow (w1.heap.size+1) #[.int .i64 e,.int .i64 p]):=by
 have hbw:Below w1.heap.size w1 ((((w1.alloc (.cells patZ 24)).alloc (.cells #[.int .i64 0,.int .i64 0] 27)).setRow w1.heap.size PV).setRow (w1.heap.size+1) #[.int .i64 e,.int .i64 p]):=
  ((((Below.refl _ _).alloc (Nat.le_refl _) _).alloc (by simp) _).setRow (Nat.le_refl _) _).setRow (Nat.le_succ _) _
 have h2:BX ((w1.alloc (.cells patZ 24)).alloc (.cells #[.int .i64 0,.int .i64 0] 27)) (w1.heap.size+1) #[.int .i64 0,.int .i64 0] 27:=by
  have:=BX.new (w1.alloc (.cells patZ 24)) #[.int .i64 0,.int .i64 0] 27
  simpa using this
 exact ⟨_,PV,rfl,rfl,⟨qAX (setRow_heap _ _ _ _ _ _ ((BX.new w1 patZ _).alloc _)) (by omega),setRow_heap _ _ _ _ _ _ (qAX h2 (by omega)),hp.below hbw⟩,hb.trans (hbw.mono hb.size)⟩
theorem pb_f {w1:World} (PV:Array Value):BX (((w1.alloc (.cells patZ 24)).alloc (.cells #[.int .i64 0,.int .i64 0] 27)).setRow w1.heap.size PV) (w1.heap.size+1) #[.int .i64 0,.int .i64 0] 27:=by
 have h2:BX ((w1.alloc (.cells patZ 24)).alloc (.cells #[.int .i64 0,.int .i64 0] 27)) (w1.heap.size+1) #[.int .i64 0,.int .i64 0] 27:=by
  have:=BX.new (w1.alloc (.cells patZ 24)) #[.int .i64 0,.int .i64 0] 27
  simpa using this
 exact qAX h2 (by omega)
end Go.Proofs.YtnoeonaajefajaaGreatDoor

set_option linter.all false
set_option maxRecDepth 100000
set_option linter.unusedVariables false
namespace Go.Proofs.YtnoeonaajefajaaGreatDoor
open Go.RowKit
open Lib (hid)
set_option maxHeartbeats 1000000 in
theorem slEq_c (A A':Option Addr) (n c n' c':Nat) (is js:List Itm) (w:World) (h:Its w A n is) (h':Its w A' n' js) :
 Calls Tryz.prog 117 #[.slice A n c,.slice A' n' c'] w fun e w'=>e=.returned (.bool (decide (is=js)))∧Below w.heap.size w w':=by
 have hn:=h.2.1
 have hn':=h'.2.1
 have hl:=hid h.len
 have hl':=hid h'.len
 have H:=hid h
 have H':=hid h'
 clear h h'
 by_cases hne:n=n'
 · subst hne
   go_enter Tryz.func117,Tryz.ntmps117
   go_wp2
   go_loopw [13] (fun i wr=>∃ k m:Nat,k≤n∧i=.int .i64 k∧wr=w.drewN m∧∀ j,j < k→im is j=im js j) (fun i _=>n - (intOf i).toNat)
   case atStart=>exact ⟨0,0,Nat.zero_le _,rfl,rfl,fun j hj=>absurd hj (by omega)⟩
   case round=>
    obtain ⟨k,m,hk,rfl,rfl,hall0⟩:=hrel;have hall:=hid hall0;clear hall0
    by_cases hlt:k < n
    · obtain ⟨ad,rfl,hb,c0,c1,_⟩:=H.out.at_ hlt
      obtain ⟨ad',rfl,hb',d0,d1,_⟩:=H'.out.at_ hlt;have HE:Hid (im is k=im js k↔((im is k).1=(im js k).1∧(im is k).2=(im js k).2)):=hid Prod.ext_iff;generalize (im is k).1=X at c0 HE;generalize (im is k).2=P at c1 HE;generalize (im js k).1=Y at d0 HE;generalize (im js k).2=Q at d1 HE
      by_cases hXY:X=Y
      · have g1:(X == Y)=true:=by simpa using hXY
        by_cases hPQ:P=Q
        · have g2:(P == Q)=true:=by simpa using hPQ
          have HE2:=hid (HE.out.2 ⟨hXY,hPQ⟩);clear hXY hPQ HE
          go_wp2
          go_quiet (fail)
          go_wp2
          go_roundw
          case rel=>
           refine ⟨k+1,_,by omega,by go_num,rfl,fun j hj=>?_⟩
           rcases Nat.lt_or_ge j k with hjk | hjk
           · exact hall.out j hjk
           · obtain rfl:j=k:=by omega
             exact HE2.out
          case measure=>simp [intOf]; omega
        · have g2:(P == Q)=false:=by simpa using hPQ
          have HE2:Hid (¬ im is k=im js k):=hid fun e=>hPQ (HE.out.1 e).2
          clear hXY hPQ HE
          go_wp2
          go_quiet (fail)
          go_wp2
          go_ret
          exact ⟨congrArg _ (congrArg _ (decide_eq_false fun e=>HE2.out (by rw [e])).symm),((Below.refl _ _).of_drewN _).of_drewN _⟩
      · have g1:(X == Y)=false:=by simpa using hXY
        have HE2:Hid (¬ im is k=im js k):=hid fun e=>hXY (HE.out.1 e).1
        clear hXY HE
        go_wp2
        go_quiet (fail)
        go_wp2
        go_ret
        exact ⟨congrArg _ (congrArg _ (decide_eq_false fun e=>HE2.out (by rw [e])).symm),((Below.refl _ _).of_drewN _).of_drewN _⟩
    · go_wp2
      go_ret
      refine ⟨?_,(Below.refl _ _).of_drewN _⟩;have:decide (is=js)=true:=decide_eq_true (im_ext (by rw [hl.out,hl'.out]) fun j hj=>hall.out j (by rw [hl.out] at hj; omega));rw [this]; rfl
 · have hb:(((n:Nat):Int) != (n':Int))=true:=by simp; omega
   go_enter Tryz.func117,Tryz.ntmps117
   go_wp2
   go_ret
   refine ⟨?_,Below.refl _ _⟩;have:decide (is=js)=false:=by
    simp only [decide_eq_false_iff_not];intro e; apply hne;rw [← hl.out,← hl'.out,e]
   rw [this]; rfl
theorem qJU (A A':Option Addr) (n c n' c':Nat) (is:List Itm) (w:World) (h:Its w A n is) (h':Its w A' n' is) :
 Calls Tryz.prog 117 #[.slice A n c,.slice A' n' c'] w fun e w'=>e=.returned (.bool true)∧Below w.heap.size w w':=
 (slEq_c A A' n c n' c' is is w h h').mono fun e w' x=>⟨by rw [x.1,decide_eq_true rfl],x.2⟩
set_option maxHeartbeats 8000000 in
theorem same_t (PV QV:Array Value) (q:Pg) (w:World) (h:Pgv w PV q) (h':Pgv w QV q) :
 Calls Tryz.prog 77 #[.agg PV,.agg QV] w fun e w'=>e=.returned (.bool true)∧Below w.heap.size w w':=by
 have HX:=hid (GX2.new w PV QV)
 obtain ⟨A0,n0,c0,A1,n1,c1,A3,n3,c3,A4,n4,c4,e,i0,i1,i3,i4⟩:=h
 obtain ⟨B0,m0,d0,B1,m1,d1,B3,m3,d3,B4,m4,d4,e2,u0,u1,u3,u4⟩:=h'
 have HB1:=hid (fun W=>qHU PV _ _ _ _ q W e)
 have HB2:=hid (fun W=>qHU QV _ _ _ _ q W e2)
 have HE0:=hid (fun W (hb:Below w.heap.size w W)=>qJU A0 B0 n0 c0 m0 d0 _ W (i0.below hb) (u0.below hb))
 have HE1:=hid (fun W (hb:Below w.heap.size w W)=>qJU A1 B1 n1 c1 m1 d1 _ W (i1.below hb) (u1.below hb))
 have HE3:=hid (fun W (hb:Below w.heap.size w W)=>qJU A3 B3 n3 c3 m3 d3 _ W (i3.below hb) (u3.below hb))
 have HE4:=hid (fun W (hb:Below w.heap.size w W)=>qJU A4 B4 n4 c4 m4 d4 _ W (i4.below hb) (u4.below hb))
 have hsz:(Tryz.prog.info? 24).map (·.size)=some PV.size:=by rw [e]; exact qHD ..
 have hsz2:(Tryz.prog.info? 24).map (·.size)=some QV.size:=by rw [e2]; exact qHD ..
 have k0:PV[0]? = some (.slice A0 n0 c0):=by rw [e]; rfl
 have j0:QV[0]? = some (.slice B0 m0 d0):=by rw [e2]; rfl
 have k1:PV[1]? = some (.slice A1 n1 c1):=by rw [e]; rfl
 have j1:QV[1]? = some (.slice B1 m1 d1):=by rw [e2]; rfl
 have k3:PV[3]? = some (.slice A3 n3 c3):=by rw [e]; rfl
 have j3:QV[3]? = some (.slice B3 m3 d3):=by rw [e2]; rfl
 have k4:PV[4]? = some (.slice A4 n4 c4):=by rw [e]; rfl
 have j4:QV[4]? = some (.slice B4 m4 d4):=by rw [e2]; rfl
 clear i0 i1 i3 i4 u0 u1 u3 u4 e e2
 go_enter Tryz.func77,Tryz.ntmps77
 go_upto_region 1 with fail
 change Code.wp _ _ _ _ ((w.alloc (.cells PV 24)).alloc (.cells QV 24))
 generalize (w.alloc (.cells PV 24)).alloc (.cells QV 24)=W at *
 generalize hg:w.heap.size=g at *
 have Hg:=hid hg
 clear hg
 have ST:∀ W,GX2 w W g PV QV→Hid (GX2 w W g PV QV)∧W.cell? ⟨g,0,none⟩=some (.slice A0 n0 c0)∧W.cell? ⟨g,1,none⟩=some (.slice A1 n1 c1)∧W.cell? ⟨g,3,none⟩=some (.slice A3 n3 c3)∧W.cell? ⟨g,4,none⟩=some (.slice A4 n4 c4)∧W.cell? ⟨g+1,0,none⟩=some (.slice B0 m0 d0)∧W.cell? ⟨g+1,1,none⟩=some (.slice B1 m1 d1)∧W.cell? ⟨g+1,3,none⟩=some (.slice B3 m3 d3)∧W.cell? ⟨g+1,4,none⟩=some (.slice B4 m4 d4):=fun W x=>⟨hid x,(x.bx.c 0).trans k0,(x.bx.c 1).trans k1,(x.bx.c 3).trans k3,(x.bx.c 4).trans k4,(x.by_.c 0).trans j0,(x.by_.c 1).trans j1,(x.by_.c 3).trans j3,(x.by_.c 4).trans j4⟩
 refine wp_region_held_drew (S:=(fun W:World=>Hid (GX2 w W g PV QV)∧W.cell? ⟨g,0,none⟩=some (.slice A0 n0 c0)∧W.cell? ⟨g,1,none⟩=some (.slice A1 n1 c1)∧W.cell? ⟨g,3,none⟩=some (.slice A3 n3 c3)∧W.cell? ⟨g,4,none⟩=some (.slice A4 n4 c4)∧W.cell? ⟨g+1,0,none⟩=some (.slice B0 m0 d0)∧W.cell? ⟨g+1,1,none⟩=some (.slice B1 m1 d1)∧W.cell? ⟨g+1,3,none⟩=some (.slice B3 m3 d3)∧W.cell? ⟨g+1,4,none⟩=some (.slice B4 m4 d4))) (by kernel_rfl) (ST _ HX.out.drew) (fun hHeld=>?_)
 refine ql 0 hHeld (fun _ h=>h.1.out.bx) Tryz.underlying24 hsz ?_
 try simp only [pk]
 refine ql 2 hHeld (fun _ h=>h.1.out.by_) Tryz.underlying24 hsz2 ?_
 try simp only [pk]
 refine qk 1 (HB1.out _) (fun W hb=>ST W (hHeld.1.out.below hb)) fun W hHeld _=>?_
 try simp only [pk]
 refine qk 3 (HB2.out _) (fun W hb=>ST W (hHeld.1.out.below hb)) fun W hHeld _=>?_
 try simp only [pk]
 refine qA8 4 rfl (by kernel_rfl) (by kernel_rfl) (by kernel_rfl) (fun _ _ _ h=>h) rfl (fun w _=>qIV q w rfl rfl rfl) hHeld ?_
 try simp only [pk]
 refine' qt 5 hHeld ?_
 try simp only [pk]
 refine' qt 6 hHeld ?_
 try simp only [pk]
 refine' qt 7 hHeld ?_
 try simp only [pk]
 refine' qt 8 hHeld ?_
 try simp only [pk]
 refine' qt 9 hHeld ?_
 try simp only [pk]
 refine qk 10 (HE0.out _ (Hg.out ▸ hHeld.1.out.b)) (fun W hb=>ST W (hHeld.1.out.below hb)) fun W hHeld _=>?_
 try simp only [pk]
 refine' qt 11 hHeld ?_
 try simp only [pk]
 refine' qt 12 hHeld ?_
 try simp only [pk]
 refine' qt 13 hHeld ?_
 try simp only [pk]
 refine' qt 14 hHeld ?_
 try simp only [pk]
 refine' qt 15 hHeld ?_
 try simp only [pk]
 refine' qt 16 hHeld ?_
 try simp only [pk]
 refine qk 17 (HE1.out _ (Hg.out ▸ hHeld.1.out.b)) (fun W hb=>ST W (hHeld.1.out.below hb)) fun W hHeld _=>?_
 try simp only [pk]
 refine' qt 18 hHeld ?_
 try simp only [pk]
 refine' qt 19 hHeld ?_
 try simp only [pk]
 refine' qt 20 hHeld ?_
 try simp only [pk]
 refine' qt 21 hHeld ?_
 try simp only [pk]
 refine' qt 22 hHeld ?_
 try simp only [pk]
 refine' qt 23 hHeld ?_
 try simp only [pk]
 refine qk 24 (HE3.out _ (Hg.out ▸ hHeld.1.out.b)) (fun W hb=>ST W (hHeld.1.out.below hb)) fun W hHeld _=>?_
 try simp only [pk]
 refine' qt 25 hHeld ?_
 try simp only [pk]
 refine' qt 26 hHeld ?_
 try simp only [pk]
 refine' qt 27 hHeld ?_
 try simp only [pk]
 refine' qt 28 hHeld ?_
 try simp only [pk]
 refine' qt 29 hHeld ?_
 try simp only [pk]
 refine' qt 30 hHeld ?_
 try simp only [pk]
 refine qk 31 (HE4.out _ (Hg.out ▸ hHeld.1.out.b)) (fun W hb=>ST W (hHeld.1.out.below hb)) fun W hHeld _=>?_
 try simp only [pk]
 refine' qt 32 hHeld ?_
 try simp only [pk]
 refine' qt 33 hHeld ?_
 try simp only [pk]
 refine wpAnyH_done (by kernel_rfl) ?_ _
 clear ST
 have HXe:=hHeld.1
 clear hHeld
 go_wp2
 go_ret
 exact ⟨rfl,Hg.out ▸ HXe.out.b⟩
set_option maxHeartbeats 8000000 in
theorem says_b (s:ByteArray) (PV:Array Value) (p:Pt) (q:Pg) (b:Bool) (w:World) (hM:Mw w) (hs:s.size≤10000000000) (hC:compZ (bts s)=(p,0,0)) (h:Pgv w PV q)
 (hS:∀ PVa W,Pgv W PVa p.g→Pgv W PV q→Calls Tryz.prog 77 #[.agg PVa,.agg PV] W fun e w'=>e=.returned (.bool b)∧Below W.heap.size W w') :
 Calls Tryz.prog 43 #[.string s,.agg PV] w fun e w'=>e=.returned (.bool b)∧Below w.heap.size w w':=by
 have HC:=hid (fun W (h:Mw W)=>qLA s W hs h)
 rw [hC] at HC
 have HM:=hid hM
 have H:=hid h
 have HS:=hid hS
 have hsz:(Tryz.prog.info? 24).map (·.size)=some PV.size:=by obtain ⟨A0,n0,c0,A1,n1,c1,A3,n3,c3,A4,n4,c4,e,-⟩:=h; rw [e]; exact qHD ..
 clear hM h hC hS
 have HX:Hid (GX w (w.alloc (.cells PV 24)) w.heap.size PV):=hid ⟨qA2 w _,BX.new _ _ _⟩
 go_enter Tryz.func43,Tryz.ntmps43
 go_upto_region 1 with fail
 generalize w.alloc (.cells PV 24)=W at *
 generalize hg:w.heap.size=g at *
 have Hg:=hid hg
 clear hg
 go_cut [5,6] (McP p 0 0 W)
 case first=>
  go_wp2_with (first
   | go_skip
   | (go_at_call 19; refine (HC.out _ (HM.out.below HX.out.b)).mono ?_; rintro e w1 ⟨PVa,rfl,hpt,hb1⟩; obtain ⟨hsa,h20,hce⟩:=hpt.out.sz)
   | (refine wpList_store_row rfl 24 _ _ rfl w1.heap.size PVa rfl rfl 24 patZ ((BX.new w1 patZ 24).alloc _) hsa h20 hce ?_)
   | (refine wpList_store_row rfl 27 _ _ rfl (w1.heap.size+1) #[.int .i64 _,.int .i64 _] rfl rfl 27 _ (pb_f PVa) (qA3 _ _) rfl (qA6 _ _) ?_)
   | fail)
  go_meet
  exact qJR hpt.out hb1
 case rest=>
 obtain ⟨a,PVa,rfl,rfl,hpb,hbc⟩:=hcut
 have HPB:=hid hpb
 have HX:=hid (HX.out.below hbc)
 have HW:=hid (H.out.below HX.out.b)
 clear hpb hbc
 have y0:=HPB.out.bf.c 0
 have y1:=HPB.out.bf.c 1
 have k0:=HPB.out.bp
 have k1:=HX.out.bx
 have s0:=HPB.out.pt.sz.1
 go_step
 go_wp2_with (first
  | go_skip
  | (refine qAG rfl 24 _ rfl a rfl 24 PVa (0,0) _ k0 Tryz.underlying24 rfl s0 ?_)
  | (refine qAG rfl 24 _ rfl g rfl 24 PV (0,0) _ k1 Tryz.underlying24 rfl hsz ?_)
  | (go_at_call 77; refine (HS.out PVa _ HPB.out.pt.g HW.out).mono ?_; rintro e w6 ⟨rfl,hb6⟩)
  | fail)
 go_ret
 exact ⟨rfl,Hg.out ▸ HX.out.b.trans (hb6.mono HX.out.b.size)⟩
theorem says_t (s:ByteArray) (PV:Array Value) (p:Pt) (w:World) (hM:Mw w) (hs:s.size≤10000000000) (hC:compZ (bts s)=(p,0,0)) (h:Ptv w PV p) :
 Calls Tryz.prog 43 #[.string s,.agg PV] w fun e w'=>e=.returned (.bool true)∧Below w.heap.size w w':=
 says_b s PV p p.g true w hM hs hC h.g fun PVa W h1 h2=>same_t PVa PV p.g W h1 h2
def prB (q:Pg) (f:Int→ByteArray):ByteArray:=fstB q (partB q f)++sndB q
structure GdG (q:Pg):Prop where
 l0:q.pre.length≤1000
 l1:q.suf.length≤1000
 l3:q.npre.length≤1000
 l4:q.nsuf.length≤1000
 pad : -2147483648≤q.pad∧q.pad≤2147483647
 inc:q.inc.size≤281474976710656
theorem qDQ {q:Pg} {f:Int→ByteArray} (hf:NPr q f) (hw:q.wid≤400):(partB q f).size≤1000000:=hf.2 _ (by omega)
set_option maxHeartbeats 4000000 in
theorem print_b (PV:Array Value) (q:Pg) (f:Int→ByteArray) (b:Bool) (w:World) (hM:Mw w) (h:Pgv w PV q) (hg:GdG q) (hwi:0≤q.wid∧q.wid≤400) (hf:NPr q f)
 (hY:∀ W,Mw W→Below w.heap.size w W→Calls Tryz.prog 43 #[.string (prB q f),.agg PV] W fun e w'=>e=.returned (.bool b)∧Below W.heap.size W w') :
 Calls Tryz.prog 17 #[.agg PV] w fun e w'=>e=.returned (.string (if b then prB q f else ⟨#[]⟩))∧Below w.heap.size w w':=by
 have b1:=qHS q (partB q f) hg.l0 hg.l1 (qDQ hf hwi.2)
 have b2:=qHT q hg.l3 hg.l4
 have HSY:=hid hY
 have HS:=hid (fun W (hb:Below w.heap.size w W)=>second_c PV q W (h.below hb) hg.l3 hg.l4)
 have HF:=hid (fun W (hq:Mw W) (hb:Below w.heap.size w W)=>first_c PV q (partB q f) W hq (h.below hb) hg.pad hg.l0 hg.l1 (qDQ hf hwi.2) (fun W' hq'=>by
  obtain ⟨A0,n0,c0,A1,n1,c1,A3,n3,c3,A4,n4,c4,e,i0,i1,-⟩:=h;subst e;exact part_c A0 A1 n0 c0 n1 c1 _ _ q f W' hq' hf hwi i0.len.symm i1.len.symm (by rw [← i0.len]; exact hg.l0) (by rw [← i1.len]; exact hg.l1) hg.inc))
 unfold prB at HSY ⊢
 generalize partB q f=TP at *
 generalize fstB q TP=T1 at *
 generalize sndB q=T2 at *
 have hsz:(Tryz.prog.info? 24).map (·.size)=some PV.size:=by obtain ⟨A0,n0,c0,A1,n1,c1,A3,n3,c3,A4,n4,c4,e,-⟩:=h; rw [e]; exact qHD ..
 have k19:PV[19]? = some (.int .i64 q.wid):=by obtain ⟨A0,n0,c0,A1,n1,c1,A3,n3,c3,A4,n4,c4,e,-⟩:=h; rw [e]; rfl
 have HM:=hid hM
 have m1:¬ 9223372036854775807 < T1.size+T2.size:=by omega
 have g1:decide (q.wid < 0)=false:=decide_eq_false (by omega)
 have g2:decide (400 < q.wid)=false:=decide_eq_false (by omega)
 have g3:¬ q.wid < 0:=by omega
 have g4:¬ 400 < q.wid:=by omega
 generalize q.wid=wd at *
 clear hM h hg hf hY hwi
 have HX:Hid (GX w (w.alloc (.cells PV 24)) w.heap.size PV):=hid ⟨qA2 w _,BX.new _ _ _⟩
 go_enter Tryz.func17,Tryz.ntmps17
 go_upto_region 1 with fail
 generalize w.alloc (.cells PV 24)=W at *
 generalize hg:w.heap.size=g at *
 have Hg:=hid hg
 clear hg
 have c19:=(HX.out.bx.c 19).trans k19
 go_upto_region 3 with fail
 clear c19 g1 g2 g3 g4
 have ST:∀ W,GX w W g PV→Hid (GX w W g PV)∧True:=fun W x=>⟨hid x,trivial⟩
 refine wp_region_held_drew (S:=(fun W:World=>Hid (GX w W g PV)∧True)) (by kernel_rfl) (ST _ HX.out.drew) (fun hHeld=>?_)
 refine ql 0 hHeld (fun _ h=>h.1.out.bx) Tryz.underlying24 hsz ?_
 try simp only [pk]
 refine ql 2 hHeld (fun _ h=>h.1.out.bx) Tryz.underlying24 hsz ?_
 try simp only [pk]
 refine qk 1 (HF.out _ (HM.out.below hHeld.1.out.b) (Hg.out ▸ hHeld.1.out.b)) (fun W hb=>ST W (hHeld.1.out.below hb)) fun W hHeld _=>?_
 try simp only [pk]
 refine qk 3 (HS.out _ (Hg.out ▸ hHeld.1.out.b)) (fun W hb=>ST W (hHeld.1.out.below hb)) fun W hHeld _=>?_
 try simp only [pk]
 refine' qt 4 hHeld ?_
 try simp only [pk]
 refine' qt 5 hHeld ?_
 try simp only [pk]
 refine wpAnyH_done (by kernel_rfl) ?_ _
 clear ST
 have HX:=hHeld.1
 clear hHeld
 have hbx:=HX.out.bx
 rcases b with _ | _
 all_goals
  go_wp2_with (first
   | (refine wpList_load_row rfl 24 _ rfl g rfl 24 PV (0,0) _ hbx Tryz.underlying24 rfl hsz ?_)
   | (go_at_call 43; refine (HSY.out _ (HM.out.below HX.out.b) (Hg.out ▸ HX.out.b)).mono ?_; rintro e w6 ⟨rfl,hb6⟩)
   | fail)
  go_ret
  exact ⟨rfl,Hg.out ▸ HX.out.b.trans (hb6.mono HX.out.b.size)⟩
theorem print_t (PV:Array Value) (p:Pt) (f:Int→ByteArray) (w:World) (hM:Mw w) (h:Ptv w PV p) (hg:GdG p.g) (hw:p.width≤400) (hf:NPr p.g f) (hC:compZ (bts (prB p.g f))=(p,0,0)) :
 Calls Tryz.prog 17 #[.agg PV] w fun e w'=>e=.returned (.string (prB p.g f))∧Below w.heap.size w w':=by
 have hwi:(0:Int)≤p.g.wid∧p.g.wid≤400:=by show (0:Int)≤(p.width:Nat)∧((p.width:Nat):Int)≤400; omega
 have b1:=qHS p.g (partB p.g f) hg.l0 hg.l1 (qDQ hf hwi.2)
 have b2:=qHT p.g hg.l3 hg.l4
 exact print_b PV p.g f true w hM h.g hg hwi hf fun W hq hb=>says_t (prB p.g f) PV p W hq (by simp only [prB,ByteArray.size_append]; omega) hC (h.below hb)
set_option maxHeartbeats 2000000 in
theorem good_t (PV:Array Value) (T:ByteArray) (w:World) (hsz:(Tryz.prog.info? 24).map (·.size)=some PV.size) (hT:0 < T.size) (hP:∀ W,Below w.heap.size w W→Calls Tryz.prog 17 #[.agg PV] W fun e w'=>e=.returned (.string T)∧Below W.heap.size W w') :
 Calls Tryz.prog 16 #[.agg PV] w fun e w'=>e=.returned (.bool true)∧Below w.heap.size w w':=by
 have h1:T.toList.isEmpty=false:=by rw [qB0]; exact decide_eq_false (by omega)
 have h2:(!T.toList.isEmpty)=true:=by rw [h1]; rfl
 have HP:=hid hP
 clear hP
 have HX:Hid (GX w (w.alloc (.cells PV 24)) w.heap.size PV):=hid ⟨qA2 w _,BX.new _ _ _⟩
 go_enter Tryz.func16,Tryz.ntmps16
 go_upto_region 1 with fail
 generalize w.alloc (.cells PV 24)=W at *
 generalize hg:w.heap.size=g at *
 have Hg:=hid hg
 clear hg
 have hbx:=HX.out.bx
 go_wp2_with (first
  | (refine wpList_load_row rfl 24 _ rfl g rfl 24 PV (0,0) _ hbx Tryz.underlying24 rfl hsz ?_)
  | (go_at_call 17; refine (HP.out _ (Hg.out ▸ HX.out.b)).mono ?_; rintro e w6 ⟨rfl,hb6⟩)
  | fail)
 go_ret
 exact ⟨rfl,Hg.out ▸ HX.out.b.trans (hb6.mono HX.out.b.size)⟩
set_option maxHeartbeats 2000000 in
theorem good_f (PV:Array Value) (w:World) (hsz:(Tryz.prog.info? 24).map (·.size)=some PV.size) (hP:∀ W,Below w.heap.size w W→Calls Tryz.prog 17 #[.agg PV] W fun e w'=>e=.returned (.string ⟨#[]⟩)∧Below W.heap.size W w') :
 Calls Tryz.prog 16 #[.agg PV] w fun e w'=>e=.returned (.bool false)∧Below w.heap.size w w':=by
 have HP:=hid hP
 clear hP
 have HX:Hid (GX w (w.alloc (.cells PV 24)) w.heap.size PV):=hid ⟨qA2 w _,BX.new _ _ _⟩
 go_enter Tryz.func16,Tryz.ntmps16
 go_upto_region 1 with fail
 generalize w.alloc (.cells PV 24)=W at *
 generalize hg:w.heap.size=g at *
 have Hg:=hid hg
 clear hg
 have hbx:=HX.out.bx
 go_wp2_with (first
  | (refine wpList_load_row rfl 24 _ rfl g rfl 24 PV (0,0) _ hbx Tryz.underlying24 rfl hsz ?_)
  | (go_at_call 17; refine (HP.out _ (Hg.out ▸ HX.out.b)).mono ?_; rintro e w6 ⟨rfl,hb6⟩)
  | fail)
 go_ret
 exact ⟨rfl,Hg.out ▸ HX.out.b.trans (hb6.mono HX.out.b.size)⟩
end Go.Proofs.YtnoeonaajefajaaGreatDoor
