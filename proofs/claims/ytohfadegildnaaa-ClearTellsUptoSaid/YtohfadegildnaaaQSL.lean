import Derived.Deep.LoopGhost
import Derived.Deep.CutBlock
import Derived.Deep.DeepCutAuto
import Derived.Test.YtohfadegildnaaaQSJ
import Derived.Test.YtohfadegildnaaaQSK
import Derived.Test.YtohfadegildnaaaQSD
import Derived.Test.YtohfadegildnaaaQSF
set_option linter.all false
set_option maxRecDepth 100000
set_option linter.unusedVariables false
namespace Go.Proofs.Ytohfadegildnaaa
open Go.RowKit
open Lib (hid)
def Mc17 (s:ByteArray) (P:Pt) (W Wc:World):Prop:=compZ (bts s)=(P,0,0)∧Below W.heap.size W Wc
theorem PtB.below {g:Nat} {w w':World} {PV:Array Value} {p:Pt} (h:PtB g w PV p) (hb:Below w.heap.size w w'):PtB g w' PV p:=by
 obtain ⟨A0,n0,c0,A1,n1,c1,A3,n3,c3,A4,n4,c4,h0,h1,h3,h4,e,k0,k1,k3,k4⟩:=h
 exact ⟨A0,n0,c0,A1,n1,c1,A3,n3,c3,A4,n4,c4,h0,h1,h3,h4,e,k0.below hb k0.hi_,k1.below hb k1.hi_,k3.below hb k3.hi_,k4.below hb k4.hi_⟩
theorem PtB.aff {g:Nat} {w:World} {PV:Array Value} {p:Pt} (h:PtB g w PV p):Aff w PV p.pre p.suf p.npre p.nsuf:=by
 obtain ⟨A0,n0,c0,A1,n1,c1,A3,n3,c3,A4,n4,c4,h0,h1,h3,h4,rfl,k0,k1,k3,k4⟩:=h
 exact ⟨qA3 ..,⟨_,_,_,rfl,k0.its,k0.cp.1⟩,⟨_,_,_,rfl,k1.its,k1.cp.1⟩,⟨_,_,_,rfl,k3.its,k3.cp.1⟩,⟨_,_,_,rfl,k4.its,k4.cp.1⟩⟩
theorem PtB.cells {g:Nat} {w:World} {PV:Array Value} {p:Pt} (h:PtB g w PV p):patZ.size=PV.size∧PV.all (·.oneCell')=true:=by
 obtain ⟨A0,n0,c0,A1,n1,c1,A3,n3,c3,A4,n4,c4,h0,h1,h3,h4,rfl,k0,k1,k3,k4⟩:=h
 exact ⟨rfl,qFP ..⟩
theorem PtB.ptv {g:Nat} {w:World} {PV:Array Value} {p:Pt} (h:PtB g w PV p) (cs ds:Array Value):Ptv ((w.setRow g cs).setRow (g+1) ds) PV p:=by
 obtain ⟨A0,n0,c0,A1,n1,c1,A3,n3,c3,A4,n4,c4,h0,h1,h3,h4,e,k0,k1,k3,k4⟩:=h
 exact ⟨A0,n0,c0,A1,n1,c1,A3,n3,c3,A4,n4,c4,e,((k0.row (.inl (by omega)) _).row (.inl (by omega)) _).its,((k1.row (.inl (by omega)) _).row (.inl (by omega)) _).its,((k3.row (.inl (by omega)) _).row (.inl (by omega)) _).its,((k4.row (.inl (by omega)) _).row (.inl (by omega)) _).its⟩
theorem mix_any (p:Pt):p.mix=if anyK 4 p.pre p.suf p.npre p.nsuf && anyK 5 p.pre p.suf p.npre p.nsuf then ({},6,0) else (p,0,0):=rfl
set_option maxHeartbeats 16000000 in
theorem comp17 (hN:C18):C17:=by
 intro s w W g p PV P hs HX HP hp HPB HC
 refine Rs.lay ?_
 iterate 177 intro _
 change Code.wp _ _ _ _ _
 conv=>arg 2; dsimp only [qHP,qG6,qFT,qET,qEC,qDU,qDG,qCY,qEN,qEB,qE2,qDO,qDF,qD0,qCV,qCM,qCD,qCU,sndS,Try.f6,Option.getD]
 iterate 2 go_step
 go_cut [] (Mc17 s P W)
 case first=>
  clear hN;have HAF:=hid HPB.out.aff;have hsz:=HPB.out.aff.1;have HMX:=hid (HC.out.trans (mix_any P));have HC4:=hid (fun (W9:World) (hb:Below W.heap.size W W9)=>signs_c 4 PV _ _ _ _ W9 (HAF.out.below hb));have HC5:=hid (fun (W9:World) (hb:Below W.heap.size W W9)=>signs_c 5 PV _ _ _ _ W9 (HAF.out.below hb));generalize anyK 4 P.pre P.suf P.npre P.nsuf=a4 at *;generalize anyK 5 P.pre P.suf P.npre P.nsuf=a5 at *;have hbo:=HP.out;have hpW:=HP.out.lt;have HPo:=hid hbo;clear HAF HPB HC
  cases a4
  · have HE:=hid (HMX.out.trans (if_neg (by simp)))
    go_wp2_with (first | go_skip | (refine wpList_load_row rfl 26 _ rfl p rfl 26 PV (0,0) _ hbo Try.underlying26 rfl hsz ?_) | (go_at_call 18; with_reducible refine (HC4.out _ (Below.refl _ _)).mono ?_; rintro e w1 ⟨n4,rfl,hn4,hb4⟩; obtain rfl:n4=0:=(by have:=hn4.out; simpa using this); have HB1:=hid hb4; clear hbo hb4) | fail)
    go_meet
    exact ⟨HE.out,HB1.out⟩
  · cases a5
    · have HE:=hid (HMX.out.trans (if_neg (by decide)))
      go_wp2_with (first | go_skip | (refine wpList_load_row rfl 26 _ rfl p rfl 26 PV (0,0) _ hbo Try.underlying26 rfl hsz ?_) | (refine qAM 26 (Operand.tmp 13) rfl p rfl 26 PV (0,0) _ hbo Try.underlying26 rfl hsz rfl rfl rfl rfl ?_) | (go_at_call 18; with_reducible refine (HC4.out _ (Below.refl _ _)).mono ?_; rintro e w1 ⟨n4,rfl,hn4,hb4⟩; have hp4:0 < n4:=(hn4.out.2 (by trivial)); have HB1:=hid hb4; clear hbo; have hbo:=HPo.out.below hb4 hpW; clear hb4) | (go_at_call 18; with_reducible refine (HC5.out _ HB1.out).mono ?_; rintro e w2 ⟨n5,rfl,hn5,hb5⟩; obtain rfl:n5=0:=(by have:=hn5.out; simpa using this); have HB2:=hid (HB1.out.trans (hb5.mono HB1.out.size)); clear hbo hb5) | fail)
      go_meet
      exact ⟨HE.out,HB2.out⟩
    · have HZ:=hid (HMX.out.trans (if_pos (by decide)))
      go_wp2_with (first | go_skip | (refine wpList_load_row rfl 26 _ rfl p rfl 26 PV (0,0) _ hbo Try.underlying26 rfl hsz ?_) | (refine qAM 26 (Operand.tmp 13) rfl p rfl 26 PV (0,0) _ hbo Try.underlying26 rfl hsz rfl rfl rfl rfl ?_) | (go_at_call 18; with_reducible refine (HC4.out _ (Below.refl _ _)).mono ?_; rintro e w1 ⟨n4,rfl,hn4,hb4⟩; have hp4:0 < n4:=(hn4.out.2 (by trivial)); have HB1:=hid hb4; clear hbo; have hbo:=HPo.out.below hb4 hpW; clear hb4) | (go_at_call 18; with_reducible refine (HC5.out _ HB1.out).mono ?_; rintro e w2 ⟨n5,rfl,hn5,hb5⟩; have hp5:0 < n5:=(hn5.out.2 (by trivial)); have HB2:=hid (HB1.out.trans (hb5.mono HB1.out.size)); clear hbo hb5; have HXe:=hid (HX.out.below HB2.out); have HS1:=hid (qAI (g:=g) (cs:=patZ) HXe.out.bf (by omega))) | (refine wpList_store_row rfl 26 _ _ rfl g patZ rfl rfl 26 patZ HXe.out.bp (qA3 _ _ _ _ _ {} _ _ _) rfl (qA8 {}) ?_) | (refine wpList_store_row rfl 29 _ _ rfl (g+1) #[.int .i64 6,.int .i64 0] rfl rfl 29 _ HS1.out (qA6 _ _) rfl (qA9 _ _) ?_) | fail)
      have HR:=hid (HXe.out.ret patZ (.int .i64 6) (.int .i64 0));exact bodyPost_ret (v:=.tuple #[.agg patZ,.agg #[.int .i64 6,.int .i64 0]]) (qAE Try.results6 _ _ g _ _ (0,0) _ rfl HR.out.1 Try.underlying26 rfl (qA3 _ _ _ _ _ {} _ _ _) (g+1) _ _ (0,0) _ rfl HR.out.2.1 Try.underlying29 rfl (qA6 _ _)) rfl (qBF.fault HZ.out (by decide) HR.out.2.2)
 case rest=>
 obtain ⟨hE,hbc⟩:=hcut
 go_step
 refine wp_mono (c:=tlc_18) (hN s w wc g p PV P hs (hid (HX.out.below hbc)) (hid (HP.out.below hbc HP.out.lt)) hp (hid (HPB.out.below hbc)) (hid hE) _ ⟨rfl,rfl,rfl,rfl⟩) ?_
 intro e a w' h
 go_step
 exact h
set_option maxHeartbeats 16000000 in
theorem comp18:C18:=by
 intro s w W g p PV P hs HX HP hp HPB HC
 refine Rs.lay ?_
 iterate 177 intro _
 change Code.wp _ _ _ _ _
 conv=>arg 2; dsimp only [tlc_18,qHP,qG6,qFT,qET,qEC,qDU,qDG,qCY,qEN,qEB,qE2,qDO,qDF,qD0,qCV,qCM,qCD,qCU,sndS,Try.f6,Option.getD]
 have hsz:=HPB.out.aff.1
 obtain ⟨hzs,hcs⟩:=HPB.out.cells
 have hbo:=HP.out
 have HR:=hid (HX.out.ret PV (.int .i64 0) (.int .i64 0))
 have HS1:Hid (BX (W.setRow g PV) (g+1) #[.int .i64 0,.int .i64 0] 29):=hid (qAI HX.out.bf (by omega))
 go_wp2_with (first
  | go_skip
  | (refine wpList_load_row rfl 26 _ rfl p rfl 26 PV (0,0) _ hbo Try.underlying26 rfl hsz ?_)
  | (refine wpList_store_row rfl 26 _ _ rfl g PV rfl rfl 26 patZ HX.out.bp hsz hzs hcs ?_)
  | (refine wpList_store_row rfl 29 _ _ rfl (g+1) #[.int .i64 0,.int .i64 0] rfl rfl 29 _ HS1.out (qA6 _ _) rfl (qA9 _ _) ?_)
  | fail)
 exact bodyPost_ret (v:=.tuple #[.agg PV,.agg #[.int .i64 0,.int .i64 0]]) (qAE Try.results6 _ _ g _ _ (0,0) _ rfl HR.out.1 Try.underlying26 rfl hsz (g+1) _ _ (0,0) _ rfl HR.out.2.1 Try.underlying29 rfl (qA6 _ _)) rfl
  ⟨PV,by rw [HC.out],hid (fun h=>absurd (by rw [HC.out]) h),hid (fun _=>by rw [HC.out]; exact HPB.out.ptv _ _),HR.out.2.2⟩
theorem comp1_all:C1:=comp1 (comp2 (comp3 (comp4 (comp5 (comp6 (comp7 (comp8 (comp9 (comp10 (comp11 (comp12 (comp13 (comp14 (comp15 (comp16 (comp17 comp18))))))))))))))))
def Mc0 (w:World) (v2 v3:Value) (Wc:World):Prop:=v2=.pointer (some ⟨w.heap.size,0,none⟩)∧v3=.pointer (some ⟨w.heap.size+1,0,none⟩)∧Wc=(w.alloc (.cells patZ 26)).alloc (.cells #[.int .i64 0,.int .i64 0] 29)
set_option maxHeartbeats 4000000 in
theorem qHR (s:ByteArray) (w:World) (hs:s.size≤1000000000):Calls Try.prog 6 #[.string s] w fun e w'=>qBF s w e w':=by
 have HX:=hid (RC.new w)
 go_enter Try.func6,Try.ntmps6
 iterate 2 go_step
 go_cut [2,3] (Mc0 w)
 case first=>
  go_wp2
  go_meet
  exact ⟨rfl,rfl,rfl⟩
 case rest=>
 obtain ⟨rfl,rfl,rfl⟩:=hcut
 go_step
 refine wp_mono (c:=qCD) (comp1_all s w _ w.heap.size hs HX _ ⟨rfl,rfl,rfl,rfl⟩) ?_
 intro e a w' h
 go_step
 exact h
theorem Ptv.sz {w:World} {PV:Array Value} {p:Pt} (h:Ptv w PV p):(Try.prog.info? 26).map (·.size)=some PV.size∧patZ.size=PV.size∧(PV.all (·.oneCell'))=true:=by
 obtain ⟨A0,n0,c0,A1,n1,c1,A3,n3,c3,A4,n4,c4,rfl,-⟩:=h
 exact ⟨qA3 ..,rfl,qFP ..⟩
theorem Ptv.nil (w:World):Ptv w patZ {}:=⟨none,0,0,none,0,0,none,0,0,none,0,0,rfl,qGM w,qGM w,qGM w,qGM w⟩
theorem qFU (s:ByteArray) (w:World) (hs:s.size≤1000000000):Calls Try.prog 6 #[.string s] w fun x w'=>∃ PV,x=.returned (.tuple #[.agg PV,.agg #[.int .i64 (compZ (bts s)).2.1,.int .i64 (compZ (bts s)).2.2]])∧Hid (Ptv w' PV (compZ (bts s)).1)∧Below w.heap.size w w':=by
 refine (qHR s w hs).mono ?_
 rintro e w' ⟨PV,rfl,h1,h2,h3⟩
 refine ⟨PV,rfl,?_,h3⟩
 by_cases h:(compZ (bts s)).2.1=0
 · exact hid (h2.out h)
 · rw [h1.out h,(qCS (qAF s)).2.1 h]; exact hid (Ptv.nil w')
structure PB (w:World) (a:Nat) (PV:Array Value) (e p:Int) (q:Pt):Prop where
 bp:BX w a PV 26
 bf:BX w (a+1) #[.int .i64 e,.int .i64 p] 29
 pt:Ptv w PV q
theorem PB.below {w w':World} {a:Nat} {PV:Array Value} {e p:Int} {q:Pt} (h:PB w a PV e p q) (hb:Below w.heap.size w w'):PB w' a PV e p q:=
 ⟨h.bp.below hb h.bp.lt,h.bf.below hb h.bf.lt,h.pt.below hb⟩
def McP (q:Pt) (e p:Int) (W:World) (v u:Value) (Wc:World):Prop:=∃ a PV,v=.pointer (some ⟨a,0,none⟩)∧u=.pointer (some ⟨a+1,0,none⟩)∧PB Wc a PV e p q∧Below W.heap.size W Wc
theorem qHS {W w1:World} {PV:Array Value} {e p:Int} {q:Pt} (hp:Ptv w1 PV q) (hb:Below W.heap.size W w1) :
 McP q e p W (.pointer (some ⟨w1.heap.size,0,none⟩)) (.pointer (some ⟨w1.heap.size+1,0,none⟩)) ((((w1.alloc (.cells patZ 26)).alloc (.cells #[.int .i64 0,.int .i64 0] 29)).setRow w1.heap.size PV).setRow (w1.heap.size+1) #[.int .i64 e,.int .i64 p]):=by
 have hbw:Below w1.heap.size w1 ((((w1.alloc (.cells patZ 26)).alloc (.cells #[.int .i64 0,.int .i64 0] 29)).setRow w1.heap.size PV).setRow (w1.heap.size+1) #[.int .i64 e,.int .i64 p]):=
  ((((Below.refl _ _).alloc (Nat.le_refl _) _).alloc (by simp) _).setRow (Nat.le_refl _) _).setRow (Nat.le_succ _) _
 have h2:BX ((w1.alloc (.cells patZ 26)).alloc (.cells #[.int .i64 0,.int .i64 0] 29)) (w1.heap.size+1) #[.int .i64 0,.int .i64 0] 29:=by
  have:=BX.new (w1.alloc (.cells patZ 26)) #[.int .i64 0,.int .i64 0] 29
  simpa using this
 exact ⟨_,PV,rfl,rfl,⟨qAI (setRow_heap _ _ _ _ _ _ ((BX.new w1 patZ _).alloc _)) (by omega),setRow_heap _ _ _ _ _ _ (qAI h2 (by omega)),hp.below hbw⟩,hb.trans (hbw.mono hb.size)⟩
theorem pb_f {w1:World} (PV:Array Value):BX (((w1.alloc (.cells patZ 26)).alloc (.cells #[.int .i64 0,.int .i64 0] 29)).setRow w1.heap.size PV) (w1.heap.size+1) #[.int .i64 0,.int .i64 0] 29:=by
 have h2:BX ((w1.alloc (.cells patZ 26)).alloc (.cells #[.int .i64 0,.int .i64 0] 29)) (w1.heap.size+1) #[.int .i64 0,.int .i64 0] 29:=by
  have:=BX.new (w1.alloc (.cells patZ 26)) #[.int .i64 0,.int .i64 0] 29
  simpa using this
 exact qAI h2 (by omega)
end Go.Proofs.Ytohfadegildnaaa
