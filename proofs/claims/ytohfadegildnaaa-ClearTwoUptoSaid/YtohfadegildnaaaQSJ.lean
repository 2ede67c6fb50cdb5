import Derived.Deep.LoopGhost
import Derived.Deep.CutBlock
import Derived.Deep.DeepCutAuto
import Derived.Test.YtohfadegildnaaaQRW
import Derived.Test.YtohfadegildnaaaQSI
import Derived.Test.YtohfadegildnaaaQZM
import Derived.Test.YtohfadegildnaaaQTG
import Derived.Test.YtohfadegildnaaaQSF
set_option linter.all false
set_option maxRecDepth 100000
set_option linter.unusedVariables false
namespace Go.Proofs.Ytohfadegildnaaa
open Go.RowKit
open Lib (hid)
structure RC (w0 W:World) (g:Nat):Prop where
 b:Below w0.heap.size w0 W
 bp:BX W g patZ 26
 bf:BX W (g+1) #[.int .i64 0,.int .i64 0] 29
 hz:w0.heap.size=g
section
variable {w0 W W':World} {g:Nat}
theorem RC.keep (x:RC w0 W g) (hb:Below (g+2) W W'):RC w0 W' g:=
 ⟨x.b.trans (hb.mono (by have:=x.hz; omega)),x.bp.below hb (by omega),x.bf.below hb (by omega),x.hz⟩
theorem RC.below (x:RC w0 W g) (hb:Below W.heap.size W W'):RC w0 W' g:=x.keep (hb.mono x.bf.lt)
theorem RC.drew (x:RC w0 W g):RC w0 W.drew g:=x.below ((Below.refl _ _).drew)
theorem RC.new (w0:World):RC w0 ((w0.alloc (.cells patZ 26)).alloc (.cells #[.int .i64 0,.int .i64 0] 29)) w0.heap.size:=
 ⟨((Below.refl _ _).alloc (Nat.le_refl _) _).alloc (by simp) _,(BX.new w0 _ _).alloc _,by have:=BX.new (w0.alloc (.cells patZ 26)) #[.int .i64 0,.int .i64 0] 29; simpa using this,rfl⟩
theorem RC.ret (x:RC w0 W g) (cs:Array Value) (e p:Value):BX ((W.setRow g cs).setRow (g+1) #[e,p]) g cs 26∧BX ((W.setRow g cs).setRow (g+1) #[e,p]) (g+1) #[e,p] 29∧Below w0.heap.size w0 ((W.setRow g cs).setRow (g+1) #[e,p]):=
 ⟨(setRow_other _ _ _ _ (by omega)).trans (setRow_heap _ _ _ _ _ _ x.bp),setRow_heap _ _ _ _ _ _ ((setRow_other _ _ _ _ (by omega)).trans x.bf),(x.b.setRow (Nat.le_of_eq x.hz) _).setRow (by have:=x.hz; omega) _⟩
end
def HfB (lo hi:Nat) (w:World) (hv:Array Value) (H:Hf):Prop:=∃ A1 n1 c1 A2 n2 c2,hv=dhV (.slice A1 n1 c1) (.slice A2 n2 c2) H.num H.at_ H.pad H.long∧Btw w lo hi A1 n1 c1 H.pre∧Btw w lo hi A2 n2 c2 H.suf
def PtB (g:Nat) (w:World) (PV:Array Value) (p:Pt):Prop:=∃ A0 n0 c0 A1 n1 c1 A3 n3 c3 A4 n4 c4 h0 h1 h3 h4,
 PV=patV (.slice A0 n0 c0) (.slice A1 n1 c1) (.bool p.neg) (.slice A3 n3 c3) (.slice A4 n4 c4) p.num (.int .i64 p.at_) (.int .i32 p.pad) (.int .i64 ((p.width:Nat):Int)) ∧
 Btw w (g+2) h0 A0 n0 c0 p.pre∧Btw w (g+2) h1 A1 n1 c1 p.suf∧Btw w (g+2) h3 A3 n3 c3 p.npre∧Btw w (g+2) h4 A4 n4 c4 p.nsuf
def qBF (s:ByteArray) (w:World) (e:Ending) (w':World):Prop:=∃ PV,e=.returned (.tuple #[.agg PV,.agg #[.int .i64 (compZ (bts s)).2.1,.int .i64 (compZ (bts s)).2.2]]) ∧
 Hid ((compZ (bts s)).2.1≠0→PV=patZ)∧Hid ((compZ (bts s)).2.1=0→Ptv w' PV (compZ (bts s)).1)∧Below w.heap.size w w'
theorem qBF.fault {s:ByteArray} {w w':World} {x y:Int} (h:compZ (bts s)=({},x,y)) (hx:x≠0) (hb:Below w.heap.size w w'):qBF s w (.returned (.tuple #[.agg patZ,.agg #[.int .i64 x,.int .i64 y]])) w':=
 ⟨patZ,by rw [h],hid fun _=>rfl,hid fun e=>absurd e (by rw [h]; exact hx),hb⟩
def qEM (es:List El) (sm:Int):Prop:=(qBE es=[]∧sm=-1)∨∃ e r,qBE es=e :: r∧qBE r=[]∧sm=((qA4 es).length:Int)
section
variable {l:List Nat}
theorem compZ_a (h:(toks l).2.1≠0):compZ l=({},(toks l).2):=by unfold compZ; rw [if_pos h]
theorem compZ_b (h:(toks l).2.1=0) {a:Int} (hb:elsB (toks l).1=some a):compZ l=({},7,a):=by unfold compZ; rw [if_neg (fun k=>k h),hb]
theorem compZ_e (h:(toks l).2.1=0) (hb:elsB (toks l).1=none):compZ l=qC0 (elsL (toks l).1):=by unfold compZ; rw [if_neg (fun k=>k h),hb]
end
section
variable {es:List El}
theorem compE_2 {e f:El} {r r2:List El} (h:qBE es=e :: r) (h2:qBE r=f :: r2):qC0 es=({},4,f.1.2.2):=by unfold qC0; rw [h]; dsimp only; rw [h2]
theorem compE_A {sm:Int} (h:qEM es sm) (hA:(halfZ true 0 (qA4 es)).2.1≠0):qC0 es=({},(halfZ true 0 (qA4 es)).2):=by
 unfold qC0
 rcases h with ⟨h,-⟩ | ⟨e,r,h,h2,-⟩
 · rw [h]; dsimp only; rw [if_pos hA]
 · rw [h]; dsimp only; rw [h2]; dsimp only; rw [if_pos hA]
theorem compE_one' (h:qBE es=[]) (hA:(halfZ true 0 (qA4 es)).2.1=0):qC0 es=(one16 (halfZ true 0 (qA4 es)).1).mix:=by
 unfold qC0; rw [h]; dsimp only; rw [if_neg (fun k=>k hA)]
theorem compE_B {e:El} {r:List El} (h:qBE es=e :: r) (h2:qBE r=[]) (hA:(halfZ true 0 (qA4 es)).2.1=0) (hB:(halfZ false (e.1.2.2+1) r).2.1≠0):qC0 es=({},(halfZ false (e.1.2.2+1) r).2):=by
 unfold qC0; rw [h]; dsimp only; rw [h2]; dsimp only; rw [if_neg (fun k=>k hA),if_pos hB]
theorem compE_two' {e:El} {r:List El} (h:qBE es=e :: r) (h2:qBE r=[]) (hA:(halfZ true 0 (qA4 es)).2.1=0) (hB:(halfZ false (e.1.2.2+1) r).2.1=0):qC0 es=(two16 (halfZ true 0 (qA4 es)).1 (halfZ false (e.1.2.2+1) r).1).mix:=by
 unfold qC0; rw [h]; dsimp only; rw [h2]; dsimp only; rw [if_neg (fun k=>k hA),if_neg (fun k=>k hB)]
end
theorem Rls.take {w:World} {A:Option Addr} {n:Nat} {ts:List El} (h:Rls w A n ts) {k:Nat} (hk:k≤n):Rls w A k (ts.take k):=by
 refine ⟨⟨by rw [qBY,List.length_take,h.len]; omega,fun h0=>?_⟩,Nat.le_trans hk h.2.1,fun t ht=>h.2.2 t (List.mem_of_mem_take ht)⟩
 obtain ⟨ad,e,hb,hc⟩:=h.1.2 (by omega)
 refine ⟨ad,e,hb,fun j u hu=>hc j u ?_⟩
 have hl:(elsR (ts.take k)).length=k * 4:=by rw [qBY,List.length_take,h.len]; omega
 have hj:=(List.getElem?_eq_some_iff.1 hu).1
 have e2:elsR ts=elsR (ts.take k)++elsR (ts.drop k):=by rw [← qE0,List.take_append_drop]
 rw [e2,List.getElem?_append_left hj]; exact hu
theorem Rls.belowB {w w':World} {A:Option Addr} {n B:Nat} {ts:List El} (h:Rls w A n ts) (hA:∀ ad,A=some ad→ad.block < B) (hb:Below B w w'):Rls w' A n ts:=by
 refine ⟨⟨h.1.1,fun h0=>?_⟩,h.2⟩
 obtain ⟨ad,e,hl,hc⟩:=h.1.2 h0
 exact ⟨ad,e,Nat.lt_of_lt_of_le hl hb.size,fun j u hu=>(hb.cell (p:=ad.add j) (by rw [qA7]; exact hA ad e)).trans (hc j u hu)⟩
theorem Rls.row {w:World} {A:Option Addr} {n f:Nat} {ts:List El} (h:Rls w A n ts) (hf:∀ ad,A=some ad→ad.block≠f) (cs:Array Value):Rls (w.setRow f cs) A n ts:=by
 have hsz:w.heap.size≤(w.setRow f cs).heap.size:=((Below.refl 0 w).setRow (Nat.zero_le f) cs).size
 refine ⟨⟨h.1.1,fun h0=>?_⟩,h.2⟩
 obtain ⟨ad,e,hb,hc⟩:=h.1.2 h0
 refine ⟨ad,e,Nat.lt_of_lt_of_le hb hsz,fun j u hu=>?_⟩
 rw [cell_setRow_other _ _ _ _ (by rw [qA7]; exact hf ad e)]
 exact hc j u hu
theorem qAX.sz {l:List El} {fs:Bool} {b:Int} {w w':World} {e:Ending} (h:qAX l fs b w e w'):∃ hv,e=.returned (.tuple #[.agg hv,.agg #[.int .i64 (halfZ fs b l).2.1,.int .i64 (halfZ fs b l).2.2]])∧(Try.prog.info? 53).map (·.size)=some hv.size∧hv.all (·.oneCell')=true∧dhZ.size=hv.size ∧
 ((halfZ fs b l).2.1=0→HfD w.heap.size w' hv (halfZ fs b l).1)∧Below w.heap.size w w':=by
 obtain ⟨hv,e1,h1,h2,h3⟩:=h
 refine ⟨hv,e1,?_⟩
 by_cases h0:(halfZ fs b l).2.1=0
 · have h4:=h2.out h0
   obtain ⟨A1,n1,c1,A2,n2,c2,rfl,-,-⟩:=h4;exact ⟨dh_size ..,qGZ ..,rfl,h2.out,h3⟩
 · obtain rfl:=h1.out h0
   exact ⟨qAL,qB5,rfl,h2.out,h3⟩
theorem dhV_mid (x0 x1:Value) (q:NF) (a p:Int) (long:Nat):∀ j v,(patN q).toList[j]? = some v→(dhV x0 x1 q a p long)[2+j]? = some v:=by
 intro j v h
 have e:(dhV x0 x1 q a p long).toList=[x0,x1]++((patN q).toList++[.int .i64 a,.int .i32 p,.int .i64 (long:Int)]):=rfl
 rw [← Array.getElem?_toList,e,List.getElem?_append_right (by show 2≤2+j; omega),show 2+j - [x0,x1].length=j by show 2+j - 2=j; omega]
 rw [List.getElem?_append_left (List.getElem?_eq_some_iff.1 h).1]; exact h
theorem padR_at (W:Nat→Int) (hW:∀ i,0≤W i) (l:List El):∀ i a r,0≤a→0≤(padR W i l a r).1.1:=by
 induction l with
 | nil=>intro i a r h; exact h
 | cons e l ih=>
  intro i a r h;rw [padR]
  split
  · split
    · exact Int.le_refl _
    · exact ih _ _ _ (hW i)
  · exact ih _ _ _ h
theorem whr_nn (fs:Bool) (n en len i:Nat):0≤whr fs n en len i:=by
 unfold whr
 repeat' split
 all_goals decide
theorem halfZ_at (fs:Bool) (b:Int) (l:List El):0≤(halfZ fs b l).1.at_∧(halfZ fs b l).1.long≤l.length:=by
 have h1:0≤(padZ fs l).1.1:=padR_at _ (fun i=>whr_nn ..) _ _ _ _ (Int.le_refl _)
 have h2:=qAW l
 unfold halfZ
 split
 · exact ⟨Int.le_refl _,Nat.zero_le _⟩
 · repeat' split
   all_goals first | exact ⟨Int.le_refl _,Nat.zero_le _⟩ | exact ⟨h1,by dsimp only; omega⟩
theorem qG5 (fs:Bool) (b:Int) (l:List El):(halfZ fs b l).1.pre.length≤40∧(halfZ fs b l).1.suf.length≤40:=by
 unfold halfZ
 split
 · exact ⟨Nat.zero_le _,Nat.zero_le _⟩
 · repeat' split
   all_goals first | exact ⟨Nat.zero_le _,Nat.zero_le _⟩ | exact ⟨itms_len _,itms_len _⟩
theorem mid_pat (q:NF) (x1 x2 a b:Value):((((patN q).setIfInBounds 0 x1).setIfInBounds 1 x2).setIfInBounds 17 a).setIfInBounds 18 b=patV x1 x2 (.bool false) (.slice none 0 0) (.slice none 0 0) q a b (.int .i64 0):=by kernel_rfl
def Mcp (p:Nat) (PV:Array Value) (W Wc:World):Prop:=BX Wc p PV 26∧Below p W Wc∧∀ k,k≠p→Wc.heap[k]? = W.heap[k]?
section
variable {w:World} {p:Nat} {x0 x1 x2 x3 x4 y0 y1 y2:Value} {q:NF}
theorem pv_set3 (v:Value):(patV x0 x1 x2 x3 x4 q y0 y1 y2).setIfInBounds 3 v=patV x0 x1 x2 v x4 q y0 y1 y2:=by kernel_rfl
theorem pv_set4 (v:Value):(patV x0 x1 x2 x3 x4 q y0 y1 y2).setIfInBounds 4 v=patV x0 x1 x2 x3 v q y0 y1 y2:=by kernel_rfl
theorem pv_set2 (v:Value):(patV x0 x1 x2 x3 x4 q y0 y1 y2).setIfInBounds 2 v=patV x0 x1 v x3 x4 q y0 y1 y2:=by kernel_rfl
theorem pv_set19 (v:Value):(patV x0 x1 x2 x3 x4 q y0 y1 y2).setIfInBounds 19 v=patV x0 x1 x2 x3 x4 q y0 y1 v:=by kernel_rfl
theorem pv_b2 (h:BX w p (patV x0 x1 x2 x3 x4 q y0 y1 y2) 26) (v:Value):BX (w.setCell ⟨p,2,none⟩ v) p (patV x0 x1 v x3 x4 q y0 y1 y2) 26:=by rw [← pv_set2]; exact heap_setCell_same w p 2 _ _ _ h
theorem pv_b3 (h:BX w p (patV x0 x1 x2 x3 x4 q y0 y1 y2) 26) (v:Value):BX (w.setCell ⟨p,3,none⟩ v) p (patV x0 x1 x2 v x4 q y0 y1 y2) 26:=by rw [← pv_set3]; exact heap_setCell_same w p 3 _ _ _ h
theorem pv_b4 (h:BX w p (patV x0 x1 x2 x3 x4 q y0 y1 y2) 26) (v:Value):BX (w.setCell ⟨p,4,none⟩ v) p (patV x0 x1 x2 x3 v q y0 y1 y2) 26:=by rw [← pv_set4]; exact heap_setCell_same w p 4 _ _ _ h
theorem pv_b19 (h:BX w p (patV x0 x1 x2 x3 x4 q y0 y1 y2) 26) (v:Value):BX (w.setCell ⟨p,19,none⟩ v) p (patV x0 x1 x2 x3 x4 q y0 y1 v) 26:=by rw [← pv_set19]; exact heap_setCell_same w p 19 _ _ _ h
theorem pv_mid (h:BX w p (patN q) 26):BX ((((w.setCell ⟨p,0,none⟩ x0).setCell ⟨p,1,none⟩ x1).setCell ⟨p,17,none⟩ y0).setCell ⟨p,18,none⟩ y1) p (patV x0 x1 (.bool false) (.slice none 0 0) (.slice none 0 0) q y0 y1 (.int .i64 0)) 26:=by
 rw [← mid_pat]
 exact heap_setCell_same _ p 18 _ _ _ (heap_setCell_same _ p 17 _ _ _ (heap_setCell_same _ p 1 _ _ _ (heap_setCell_same w p 0 _ _ _ h)))
end
noncomputable def qCU:Code:=Try.f6.body.getD .skip
noncomputable def qCD:Code:=sndS qCU
noncomputable def qCM:Code:=sndS qCD
noncomputable def qCV:Code:=sndS qCM
noncomputable def qD0:Code:=sndS qCV
noncomputable def qDF:Code:=sndS qD0
noncomputable def qDO:Code:=sndS qDF
noncomputable def qE2:Code:=sndS qDO
noncomputable def qEB:Code:=sndS qE2
noncomputable def qEN:Code:=sndS qEB
noncomputable def qCY:Code:=sndS qEN
noncomputable def qDG:Code:=sndS qCY
noncomputable def qDU:Code:=sndS qDG
noncomputable def qEC:Code:=sndS qDU
noncomputable def qET:Code:=sndS qEC
noncomputable def qFT:Code:=sndS qET
noncomputable def qG6:Code:=sndS qFT
noncomputable def qHP:Code:=sndS qG6
noncomputable def tlc_18:Code:=sndS qHP
def C1:Prop:=∀ (s:ByteArray) (w W:World) (g:Nat) (hs:s.size≤1000000000) (HX:Hid (RC w W g)) (T:List Value),Rs 180 [(0,.string s),(2,.pointer (some ⟨g,0,none⟩)),(3,.pointer (some ⟨g+1,0,none⟩))] T→(qCD).wp Try.prog (bodyPost Try.prog Try.f6 (fun e w'=>qBF s w e w')) ⟨T.toArray,[]⟩ W
def C2:Prop:=∀ (s:ByteArray) (w W:World) (g:Nat) (A:Option Addr) (n c f:Nat) (hs:s.size≤1000000000) (HX:Hid (RC w W g)) (HT:Hid (Tks W A n (toks (bts s)).1)) (HF:Hid (BX W f #[.int .i64 (toks (bts s)).2.1,.int .i64 (toks (bts s)).2.2] 29)) (hf:g+1 < f) (T:List Value),Rs 180 [(2,.pointer (some ⟨g,0,none⟩)),(3,.pointer (some ⟨g+1,0,none⟩)),(4,.slice A n c),(5,.pointer (some ⟨f,0,none⟩))] T→(qCM).wp Try.prog (bodyPost Try.prog Try.f6 (fun e w'=>qBF s w e w')) ⟨T.toArray,[]⟩ W
def C3:Prop:=∀ (s:ByteArray) (w W:World) (g:Nat) (A:Option Addr) (n c f:Nat) (fx fy:Int) (hs:s.size≤1000000000) (HX:Hid (RC w W g)) (HT:Hid (Tks W A n (toks (bts s)).1)) (HF:Hid (BX W f #[.int .i64 fx,.int .i64 fy] 29)) (hf:g+1 < f) (ht:(toks (bts s)).2.1=0) (T:List Value),Rs 180 [(2,.pointer (some ⟨g,0,none⟩)),(3,.pointer (some ⟨g+1,0,none⟩)),(4,.slice A n c),(5,.pointer (some ⟨f,0,none⟩))] T→(qCV).wp Try.prog (bodyPost Try.prog Try.f6 (fun e w'=>qBF s w e w')) ⟨T.toArray,[]⟩ W
def C4:Prop:=∀ (s:ByteArray) (w W:World) (g:Nat) (A:Option Addr) (n c f:Nat) (fx fy:Int) (hs:s.size≤1000000000) (HX:Hid (RC w W g)) (HT:Hid (Tks W A n (toks (bts s)).1)) (HF:Hid (BX W f #[.int .i64 fx,.int .i64 fy] 29)) (hf:g+1 < f) (ht:(toks (bts s)).2.1=0) (T:List Value),Rs 180 [(2,.pointer (some ⟨g,0,none⟩)),(3,.pointer (some ⟨g+1,0,none⟩)),(4,.slice A n c),(5,.pointer (some ⟨f,0,none⟩)),(6,.slice none 0 0)] T→(qD0).wp Try.prog (bodyPost Try.prog Try.f6 (fun e w'=>qBF s w e w')) ⟨T.toArray,[]⟩ W
def C5:Prop:=∀ (s:ByteArray) (w W:World) (g:Nat) (f:Nat) (fx fy:Int) (E:Option Addr) (m d eb:Nat) (hs:s.size≤1000000000) (HX:Hid (RC w W g)) (HF:Hid (BX W f #[.int .i64 fx,.int .i64 fy] 29)) (hf:g+1 < f) (ht:(toks (bts s)).2.1=0) (HE:Hid (Rls W E m (elsL (toks (bts s)).1))) (hm:m≤400) (hd:m≤d) (hel:∀ ad,E=some ad→f < ad.block∧ad.block < eb) (heb:eb≤W.heap.size) (hnb:elsB (toks (bts s)).1=none) (T:List Value),Rs 180 [(2,.pointer (some ⟨g,0,none⟩)),(3,.pointer (some ⟨g+1,0,none⟩)),(5,.pointer (some ⟨f,0,none⟩)),(6,.slice E m d)] T→(qDF).wp Try.prog (bodyPost Try.prog Try.f6 (fun e w'=>qBF s w e w')) ⟨T.toArray,[]⟩ W
def C6:Prop:=∀ (s:ByteArray) (w W:World) (g:Nat) (f:Nat) (fx fy:Int) (E:Option Addr) (m d eb:Nat) (hs:s.size≤1000000000) (HX:Hid (RC w W g)) (HF:Hid (BX W f #[.int .i64 fx,.int .i64 fy] 29)) (hf:g+1 < f) (ht:(toks (bts s)).2.1=0) (HE:Hid (Rls W E m (elsL (toks (bts s)).1))) (hm:m≤400) (hd:m≤d) (hel:∀ ad,E=some ad→f < ad.block∧ad.block < eb) (heb:eb≤W.heap.size) (hnb:elsB (toks (bts s)).1=none) (T:List Value),Rs 180 [(2,.pointer (some ⟨g,0,none⟩)),(3,.pointer (some ⟨g+1,0,none⟩)),(5,.pointer (some ⟨f,0,none⟩)),(6,.slice E m d),(9,.int .i64 (-1))] T→(qDO).wp Try.prog (bodyPost Try.prog Try.f6 (fun e w'=>qBF s w e w')) ⟨T.toArray,[]⟩ W
def C7:Prop:=∀ (s:ByteArray) (w W:World) (g:Nat) (f:Nat) (fx fy:Int) (E:Option Addr) (m d eb:Nat) (sm:Int) (hs:s.size≤1000000000) (HX:Hid (RC w W g)) (HF:Hid (BX W f #[.int .i64 fx,.int .i64 fy] 29)) (hf:g+1 < f) (ht:(toks (bts s)).2.1=0) (HE:Hid (Rls W E m (elsL (toks (bts s)).1))) (hm:m≤400) (hd:m≤d) (hel:∀ ad,E=some ad→f < ad.block∧ad.block < eb) (heb:eb≤W.heap.size) (hnb:elsB (toks (bts s)).1=none) (HS:Hid (qEM (elsL (toks (bts s)).1) sm)) (T:List Value),Rs 180 [(2,.pointer (some ⟨g,0,none⟩)),(3,.pointer (some ⟨g+1,0,none⟩)),(5,.pointer (some ⟨f,0,none⟩)),(6,.slice E m d),(9,.int .i64 sm)] T→(qE2).wp Try.prog (bodyPost Try.prog Try.f6 (fun e w'=>qBF s w e w')) ⟨T.toArray,[]⟩ W
def C8:Prop:=∀ (s:ByteArray) (w W:World) (g:Nat) (f:Nat) (fx fy:Int) (E:Option Addr) (m d eb:Nat) (sm:Int) (hs:s.size≤1000000000) (HX:Hid (RC w W g)) (HF:Hid (BX W f #[.int .i64 fx,.int .i64 fy] 29)) (hf:g+1 < f) (ht:(toks (bts s)).2.1=0) (HE:Hid (Rls W E m (elsL (toks (bts s)).1))) (hm:m≤400) (hd:m≤d) (hel:∀ ad,E=some ad→f < ad.block∧ad.block < eb) (heb:eb≤W.heap.size) (hnb:elsB (toks (bts s)).1=none) (HS:Hid (qEM (elsL (toks (bts s)).1) sm)) (T:List Value),Rs 180 [(2,.pointer (some ⟨g,0,none⟩)),(3,.pointer (some ⟨g+1,0,none⟩)),(5,.pointer (some ⟨f,0,none⟩)),(6,.slice E m d),(9,.int .i64 sm),(11,.slice E m d)] T→(qEB).wp Try.prog (bodyPost Try.prog Try.f6 (fun e w'=>qBF s w e w')) ⟨T.toArray,[]⟩ W
def C9:Prop:=∀ (s:ByteArray) (w W:World) (g:Nat) (f:Nat) (fx fy:Int) (E:Option Addr) (m d eb:Nat) (sm:Int) (hs:s.size≤1000000000) (HX:Hid (RC w W g)) (HF:Hid (BX W f #[.int .i64 fx,.int .i64 fy] 29)) (hf:g+1 < f) (ht:(toks (bts s)).2.1=0) (HE:Hid (Rls W E m (elsL (toks (bts s)).1))) (hm:m≤400) (hd:m≤d) (hel:∀ ad,E=some ad→f < ad.block∧ad.block < eb) (heb:eb≤W.heap.size) (hnb:elsB (toks (bts s)).1=none) (HS:Hid (qEM (elsL (toks (bts s)).1) sm)) (T:List Value),Rs 180 [(2,.pointer (some ⟨g,0,none⟩)),(3,.pointer (some ⟨g+1,0,none⟩)),(5,.pointer (some ⟨f,0,none⟩)),(6,.slice E m d),(9,.int .i64 sm),(11,.slice E (qA4 (elsL (toks (bts s)).1)).length d)] T→(qEN).wp Try.prog (bodyPost Try.prog Try.f6 (fun e w'=>qBF s w e w')) ⟨T.toArray,[]⟩ W
def C10:Prop:=∀ (s:ByteArray) (w W:World) (g:Nat) (f:Nat) (E:Option Addr) (m d eb:Nat) (sm:Int) (h lo hi:Nat) (hv:Array Value) (hs:s.size≤1000000000) (HX:Hid (RC w W g)) (HF:Hid (BX W f #[.int .i64 (halfZ true 0 (qA4 (elsL (toks (bts s)).1))).2.1,.int .i64 (halfZ true 0 (qA4 (elsL (toks (bts s)).1))).2.2] 29)) (hf:g+1 < f) (ht:(toks (bts s)).2.1=0) (HE:Hid (Rls W E m (elsL (toks (bts s)).1))) (hm:m≤400) (hd:m≤d) (hel:∀ ad,E=some ad→f < ad.block∧ad.block < eb) (heb:eb≤h) (hfh:f < h) (hnb:elsB (toks (bts s)).1=none) (HS:Hid (qEM (elsL (toks (bts s)).1) sm)) (HB:Hid (BX W h hv 53)) (hlo:f < lo) (hhi:hi≤h) (HD:Hid ((halfZ true 0 (qA4 (elsL (toks (bts s)).1))).2.1=0→HfB lo hi W hv (halfZ true 0 (qA4 (elsL (toks (bts s)).1))).1)) (T:List Value),Rs 180 [(2,.pointer (some ⟨g,0,none⟩)),(3,.pointer (some ⟨g+1,0,none⟩)),(5,.pointer (some ⟨f,0,none⟩)),(6,.slice E m d),(9,.int .i64 sm),(12,.pointer (some ⟨h,0,none⟩))] T→(qCY).wp Try.prog (bodyPost Try.prog Try.f6 (fun e w'=>qBF s w e w')) ⟨T.toArray,[]⟩ W
def C11:Prop:=∀ (s:ByteArray) (w W:World) (g:Nat) (fx fy:Int) (f:Nat) (E:Option Addr) (m d eb:Nat) (sm:Int) (h lo hi:Nat) (X1:Option Addr) (n1 c1:Nat) (X2:Option Addr) (n2 c2:Nat) (hs:s.size≤1000000000) (HX:Hid (RC w W g)) (HF:Hid (BX W f #[.int .i64 fx,.int .i64 fy] 29)) (hf:g+1 < f) (ht:(toks (bts s)).2.1=0) (HE:Hid (Rls W E m (elsL (toks (bts s)).1))) (hm:m≤400) (hd:m≤d) (hel:∀ ad,E=some ad→f < ad.block∧ad.block < eb) (heb:eb≤h) (hfh:f < h) (hnb:elsB (toks (bts s)).1=none) (HS:Hid (qEM (elsL (toks (bts s)).1) sm)) (HB:Hid (BX W h (dhV (.slice X1 n1 c1) (.slice X2 n2 c2) (halfZ true 0 (qA4 (elsL (toks (bts s)).1))).1.num (halfZ true 0 (qA4 (elsL (toks (bts s)).1))).1.at_ (halfZ true 0 (qA4 (elsL (toks (bts s)).1))).1.pad (halfZ true 0 (qA4 (elsL (toks (bts s)).1))).1.long) 53)) (hlo:f < lo) (hhi:hi≤h) (hR:(halfZ true 0 (qA4 (elsL (toks (bts s)).1))).2.1=0) (HI1:Hid (Btw W lo hi X1 n1 c1 (halfZ true 0 (qA4 (elsL (toks (bts s)).1))).1.pre)) (HI2:Hid (Btw W lo hi X2 n2 c2 (halfZ true 0 (qA4 (elsL (toks (bts s)).1))).1.suf)) (T:List Value),Rs 180 [(2,.pointer (some ⟨g,0,none⟩)),(3,.pointer (some ⟨g+1,0,none⟩)),(5,.pointer (some ⟨f,0,none⟩)),(6,.slice E m d),(9,.int .i64 sm),(12,.pointer (some ⟨h,0,none⟩))] T→(qDG).wp Try.prog (bodyPost Try.prog Try.f6 (fun e w'=>qBF s w e w')) ⟨T.toArray,[]⟩ W
def C12:Prop:=∀ (s:ByteArray) (w W:World) (g:Nat) (fx fy:Int) (f:Nat) (E:Option Addr) (m d eb:Nat) (sm:Int) (h lo hi:Nat) (X1:Option Addr) (n1 c1:Nat) (X2:Option Addr) (n2 c2:Nat) (p:Nat) (hs:s.size≤1000000000) (HX:Hid (RC w W g)) (HF:Hid (BX W f #[.int .i64 fx,.int .i64 fy] 29)) (hf:g+1 < f) (ht:(toks (bts s)).2.1=0) (HE:Hid (Rls W E m (elsL (toks (bts s)).1))) (hm:m≤400) (hd:m≤d) (hel:∀ ad,E=some ad→f < ad.block∧ad.block < eb) (heb:eb≤h) (hfh:f < h) (hnb:elsB (toks (bts s)).1=none) (HS:Hid (qEM (elsL (toks (bts s)).1) sm)) (HB:Hid (BX W h (dhV (.slice X1 n1 c1) (.slice X2 n2 c2) (halfZ true 0 (qA4 (elsL (toks (bts s)).1))).1.num (halfZ true 0 (qA4 (elsL (toks (bts s)).1))).1.at_ (halfZ true 0 (qA4 (elsL (toks (bts s)).1))).1.pad (halfZ true 0 (qA4 (elsL (toks (bts s)).1))).1.long) 53)) (hlo:f < lo) (hhi:hi≤h) (hR:(halfZ true 0 (qA4 (elsL (toks (bts s)).1))).2.1=0) (HI1:Hid (Btw W lo hi X1 n1 c1 (halfZ true 0 (qA4 (elsL (toks (bts s)).1))).1.pre)) (HI2:Hid (Btw W lo hi X2 n2 c2 (halfZ true 0 (qA4 (elsL (toks (bts s)).1))).1.suf)) (HP:Hid (BX W p (patN (halfZ true 0 (qA4 (elsL (toks (bts s)).1))).1.num) 26)) (hp:h < p) (T:List Value),Rs 180 [(2,.pointer (some ⟨g,0,none⟩)),(3,.pointer (some ⟨g+1,0,none⟩)),(5,.pointer (some ⟨f,0,none⟩)),(6,.slice E m d),(9,.int .i64 sm),(12,.pointer (some ⟨h,0,none⟩)),(13,.pointer (some ⟨p,0,none⟩))] T→(qDU).wp Try.prog (bodyPost Try.prog Try.f6 (fun e w'=>qBF s w e w')) ⟨T.toArray,[]⟩ W
def C13:Prop:=∀ (s:ByteArray) (w W:World) (g:Nat) (fx fy:Int) (f:Nat) (E:Option Addr) (m d eb:Nat) (sm:Int) (h lo hi:Nat) (X1:Option Addr) (n1 c1:Nat) (X2:Option Addr) (n2 c2:Nat) (p:Nat) (hs:s.size≤1000000000) (HX:Hid (RC w W g)) (HF:Hid (BX W f #[.int .i64 fx,.int .i64 fy] 29)) (hf:g+1 < f) (ht:(toks (bts s)).2.1=0) (HE:Hid (Rls W E m (elsL (toks (bts s)).1))) (hm:m≤400) (hd:m≤d) (hel:∀ ad,E=some ad→f < ad.block∧ad.block < eb) (heb:eb≤h) (hfh:f < h) (hnb:elsB (toks (bts s)).1=none) (HS:Hid (qEM (elsL (toks (bts s)).1) sm)) (HB:Hid (BX W h (dhV (.slice X1 n1 c1) (.slice X2 n2 c2) (halfZ true 0 (qA4 (elsL (toks (bts s)).1))).1.num (halfZ true 0 (qA4 (elsL (toks (bts s)).1))).1.at_ (halfZ true 0 (qA4 (elsL (toks (bts s)).1))).1.pad (halfZ true 0 (qA4 (elsL (toks (bts s)).1))).1.long) 53)) (hlo:f < lo) (hhi:hi≤h) (hR:(halfZ true 0 (qA4 (elsL (toks (bts s)).1))).2.1=0) (HI1:Hid (Btw W lo hi X1 n1 c1 (halfZ true 0 (qA4 (elsL (toks (bts s)).1))).1.pre)) (HI2:Hid (Btw W lo hi X2 n2 c2 (halfZ true 0 (qA4 (elsL (toks (bts s)).1))).1.suf)) (HP:Hid (BX W p (patV (.slice X1 n1 c1) (.slice X2 n2 c2) (.bool false) (.slice none 0 0) (.slice none 0 0) (halfZ true 0 (qA4 (elsL (toks (bts s)).1))).1.num (.int .i64 (halfZ true 0 (qA4 (elsL (toks (bts s)).1))).1.at_) (.int .i32 (halfZ true 0 (qA4 (elsL (toks (bts s)).1))).1.pad) (.int .i64 0)) 26)) (hp:h < p) (T:List Value),Rs 180 [(2,.pointer (some ⟨g,0,none⟩)),(3,.pointer (some ⟨g+1,0,none⟩)),(5,.pointer (some ⟨f,0,none⟩)),(6,.slice E m d),(9,.int .i64 sm),(12,.pointer (some ⟨h,0,none⟩)),(13,.pointer (some ⟨p,0,none⟩))] T→(qEC).wp Try.prog (bodyPost Try.prog Try.f6 (fun e w'=>qBF s w e w')) ⟨T.toArray,[]⟩ W
def C14:Prop:=∀ (s:ByteArray) (w W:World) (g:Nat) (fx fy:Int) (f:Nat) (E:Option Addr) (m d eb:Nat) (sm:Int) (h lo hi:Nat) (X1:Option Addr) (n1 c1:Nat) (X2:Option Addr) (n2 c2:Nat) (p:Nat) (hs:s.size≤1000000000) (HX:Hid (RC w W g)) (HF:Hid (BX W f #[.int .i64 fx,.int .i64 fy] 29)) (hf:g+1 < f) (ht:(toks (bts s)).2.1=0) (HE:Hid (Rls W E m (elsL (toks (bts s)).1))) (hm:m≤400) (hd:m≤d) (hel:∀ ad,E=some ad→f < ad.block∧ad.block < eb) (heb:eb≤h) (hfh:f < h) (hnb:elsB (toks (bts s)).1=none) (HS:Hid (qEM (elsL (toks (bts s)).1) sm)) (HB:Hid (BX W h (dhV (.slice X1 n1 c1) (.slice X2 n2 c2) (halfZ true 0 (qA4 (elsL (toks (bts s)).1))).1.num (halfZ true 0 (qA4 (elsL (toks (bts s)).1))).1.at_ (halfZ true 0 (qA4 (elsL (toks (bts s)).1))).1.pad (halfZ true 0 (qA4 (elsL (toks (bts s)).1))).1.long) 53)) (hlo:f < lo) (hhi:hi≤h) (hR:(halfZ true 0 (qA4 (elsL (toks (bts s)).1))).2.1=0) (HI1:Hid (Btw W lo hi X1 n1 c1 (halfZ true 0 (qA4 (elsL (toks (bts s)).1))).1.pre)) (HI2:Hid (Btw W lo hi X2 n2 c2 (halfZ true 0 (qA4 (elsL (toks (bts s)).1))).1.suf)) (HP:Hid (BX W p (patV (.slice X1 n1 c1) (.slice X2 n2 c2) (.bool false) (.slice none 0 0) (.slice none 0 0) (halfZ true 0 (qA4 (elsL (toks (bts s)).1))).1.num (.int .i64 (halfZ true 0 (qA4 (elsL (toks (bts s)).1))).1.at_) (.int .i32 (halfZ true 0 (qA4 (elsL (toks (bts s)).1))).1.pad) (.int .i64 (((halfZ true 0 (qA4 (elsL (toks (bts s)).1))).1.wid:Nat):Int))) 26)) (hp:h < p) (T:List Value),Rs 180 [(2,.pointer (some ⟨g,0,none⟩)),(3,.pointer (some ⟨g+1,0,none⟩)),(5,.pointer (some ⟨f,0,none⟩)),(6,.slice E m d),(9,.int .i64 sm),(12,.pointer (some ⟨h,0,none⟩)),(13,.pointer (some ⟨p,0,none⟩))] T→(qET).wp Try.prog (bodyPost Try.prog Try.f6 (fun e w'=>qBF s w e w')) ⟨T.toArray,[]⟩ W
def C15:Prop:=∀ (s:ByteArray) (w W:World) (g:Nat) (fx fy:Int) (f:Nat) (E:Option Addr) (m d eb:Nat) (sm:Int) (h lo hi:Nat) (X1:Option Addr) (n1 c1:Nat) (X2:Option Addr) (n2 c2:Nat) (p:Nat) (X3:Option Addr) (n3 c3 hi3:Nat) (hs:s.size≤1000000000) (HX:Hid (RC w W g)) (HF:Hid (BX W f #[.int .i64 fx,.int .i64 fy] 29)) (hf:g+1 < f) (ht:(toks (bts s)).2.1=0) (HE:Hid (Rls W E m (elsL (toks (bts s)).1))) (hm:m≤400) (hd:m≤d) (hel:∀ ad,E=some ad→f < ad.block∧ad.block < eb) (heb:eb≤h) (hfh:f < h) (hnb:elsB (toks (bts s)).1=none) (HS:Hid (qEM (elsL (toks (bts s)).1) sm)) (HB:Hid (BX W h (dhV (.slice X1 n1 c1) (.slice X2 n2 c2) (halfZ true 0 (qA4 (elsL (toks (bts s)).1))).1.num (halfZ true 0 (qA4 (elsL (toks (bts s)).1))).1.at_ (halfZ true 0 (qA4 (elsL (toks (bts s)).1))).1.pad (halfZ true 0 (qA4 (elsL (toks (bts s)).1))).1.long) 53)) (hlo:f < lo) (hhi:hi≤h) (hR:(halfZ true 0 (qA4 (elsL (toks (bts s)).1))).2.1=0) (HI1:Hid (Btw W lo hi X1 n1 c1 (halfZ true 0 (qA4 (elsL (toks (bts s)).1))).1.pre)) (HI2:Hid (Btw W lo hi X2 n2 c2 (halfZ true 0 (qA4 (elsL (toks (bts s)).1))).1.suf)) (HP:Hid (BX W p (patV (.slice X1 n1 c1) (.slice X2 n2 c2) (.bool false) (.slice X3 n3 c3) (.slice none 0 0) (halfZ true 0 (qA4 (elsL (toks (bts s)).1))).1.num (.int .i64 (halfZ true 0 (qA4 (elsL (toks (bts s)).1))).1.at_) (.int .i32 (halfZ true 0 (qA4 (elsL (toks (bts s)).1))).1.pad) (.int .i64 (((halfZ true 0 (qA4 (elsL (toks (bts s)).1))).1.wid:Nat):Int))) 26)) (hp:h < p) (HI3:Hid (Btw W (p+1) hi3 X3 n3 c3 ((2,0) :: (halfZ true 0 (qA4 (elsL (toks (bts s)).1))).1.pre))) (T:List Value),Rs 180 [(2,.pointer (some ⟨g,0,none⟩)),(3,.pointer (some ⟨g+1,0,none⟩)),(5,.pointer (some ⟨f,0,none⟩)),(6,.slice E m d),(9,.int .i64 sm),(12,.pointer (some ⟨h,0,none⟩)),(13,.pointer (some ⟨p,0,none⟩))] T→(qFT).wp Try.prog (bodyPost Try.prog Try.f6 (fun e w'=>qBF s w e w')) ⟨T.toArray,[]⟩ W
def C16:Prop:=∀ (s:ByteArray) (w W:World) (g:Nat) (fx fy:Int) (f:Nat) (E:Option Addr) (m d eb:Nat) (sm:Int) (h lo hi:Nat) (X1:Option Addr) (n1 c1:Nat) (X2:Option Addr) (n2 c2:Nat) (p:Nat) (X3:Option Addr) (n3 c3 hi3:Nat) (hs:s.size≤1000000000) (HX:Hid (RC w W g)) (HF:Hid (BX W f #[.int .i64 fx,.int .i64 fy] 29)) (hf:g+1 < f) (ht:(toks (bts s)).2.1=0) (HE:Hid (Rls W E m (elsL (toks (bts s)).1))) (hm:m≤400) (hd:m≤d) (hel:∀ ad,E=some ad→f < ad.block∧ad.block < eb) (heb:eb≤h) (hfh:f < h) (hnb:elsB (toks (bts s)).1=none) (HS:Hid (qEM (elsL (toks (bts s)).1) sm)) (HB:Hid (BX W h (dhV (.slice X1 n1 c1) (.slice X2 n2 c2) (halfZ true 0 (qA4 (elsL (toks (bts s)).1))).1.num (halfZ true 0 (qA4 (elsL (toks (bts s)).1))).1.at_ (halfZ true 0 (qA4 (elsL (toks (bts s)).1))).1.pad (halfZ true 0 (qA4 (elsL (toks (bts s)).1))).1.long) 53)) (hlo:f < lo) (hhi:hi≤h) (hR:(halfZ true 0 (qA4 (elsL (toks (bts s)).1))).2.1=0) (HI1:Hid (Btw W lo hi X1 n1 c1 (halfZ true 0 (qA4 (elsL (toks (bts s)).1))).1.pre)) (HI2:Hid (Btw W lo hi X2 n2 c2 (halfZ true 0 (qA4 (elsL (toks (bts s)).1))).1.suf)) (HP:Hid (BX W p (patV (.slice X1 n1 c1) (.slice X2 n2 c2) (.bool false) (.slice X3 n3 c3) (.slice X2 n2 c2) (halfZ true 0 (qA4 (elsL (toks (bts s)).1))).1.num (.int .i64 (halfZ true 0 (qA4 (elsL (toks (bts s)).1))).1.at_) (.int .i32 (halfZ true 0 (qA4 (elsL (toks (bts s)).1))).1.pad) (.int .i64 (((halfZ true 0 (qA4 (elsL (toks (bts s)).1))).1.wid:Nat):Int))) 26)) (hp:h < p) (HI3:Hid (Btw W (p+1) hi3 X3 n3 c3 ((2,0) :: (halfZ true 0 (qA4 (elsL (toks (bts s)).1))).1.pre))) (T:List Value),Rs 180 [(2,.pointer (some ⟨g,0,none⟩)),(3,.pointer (some ⟨g+1,0,none⟩)),(5,.pointer (some ⟨f,0,none⟩)),(6,.slice E m d),(9,.int .i64 sm),(12,.pointer (some ⟨h,0,none⟩)),(13,.pointer (some ⟨p,0,none⟩))] T→(qG6).wp Try.prog (bodyPost Try.prog Try.f6 (fun e w'=>qBF s w e w')) ⟨T.toArray,[]⟩ W
def C17:Prop:=∀ (s:ByteArray) (w W:World) (g:Nat) (p:Nat) (PV:Array Value) (P:Pt) (hs:s.size≤1000000000) (HX:Hid (RC w W g)) (HP:Hid (BX W p PV 26)) (hp:g+1 < p) (HPB:Hid (PtB g W PV P)) (HC:Hid (compZ (bts s)=P.mix)) (T:List Value),Rs 180 [(2,.pointer (some ⟨g,0,none⟩)),(3,.pointer (some ⟨g+1,0,none⟩)),(13,.pointer (some ⟨p,0,none⟩))] T→(qHP).wp Try.prog (bodyPost Try.prog Try.f6 (fun e w'=>qBF s w e w')) ⟨T.toArray,[]⟩ W
def C18:Prop:=∀ (s:ByteArray) (w W:World) (g:Nat) (p:Nat) (PV:Array Value) (P:Pt) (hs:s.size≤1000000000) (HX:Hid (RC w W g)) (HP:Hid (BX W p PV 26)) (hp:g+1 < p) (HPB:Hid (PtB g W PV P)) (HC:Hid (compZ (bts s)=(P,0,0))) (T:List Value),Rs 180 [(2,.pointer (some ⟨g,0,none⟩)),(3,.pointer (some ⟨g+1,0,none⟩)),(13,.pointer (some ⟨p,0,none⟩))] T→(tlc_18).wp Try.prog (bodyPost Try.prog Try.f6 (fun e w'=>qBF s w e w')) ⟨T.toArray,[]⟩ W
def Mc1 (g:Nat) (R:List Tok × Int × Int) (W:World) (v4 v5:Value) (Wc:World):Prop:=∃ A n c f,v4=.slice A n c∧v5=.pointer (some ⟨f,0,none⟩)∧g+1 < f∧Tks Wc A n R.1∧BX Wc f #[.int .i64 R.2.1,.int .i64 R.2.2] 29∧Below W.heap.size W Wc
set_option maxHeartbeats 16000000 in
theorem comp1 (hN:C2):C1:=by
 intro s w W g hs HX
 refine Rs.lay ?_
 iterate 177 intro _
 change Code.wp _ _ _ _ _
 conv=>arg 2; dsimp only [qCD,qCU,sndS,Try.f6,Option.getD]
 iterate 2 go_step
 go_cut [4,5] (Mc1 g (toks (bts s)) W)
 case first=>
  clear hN;have HC:=hid (fun W'=>refScan_c s W' (by omega));have hgW:=HX.out.bf.lt;generalize toks (bts s)=R at *;obtain ⟨ts,te,tp⟩:=R
  go_wp2_with (first
   | go_skip
   | (go_at_call 15; refine (HC.out _).mono ?_; rintro e w1 ⟨A,n,c,rfl,ho,hb1⟩; clear HC)
   | (refine wpList_store_row rfl 29 _ _ rfl w1.heap.size #[.int .i64 te,.int .i64 tp] rfl rfl 29 _ (BX.new w1 #[.int .i64 0,.int .i64 0] 29) (qA6 _ _) rfl (qA9 _ _) ?_)
   | fail)
  go_meet
  have hs1:=hb1.out.size;have hbb:Below w1.heap.size w1 ((w1.alloc (.cells #[.int .i64 0,.int .i64 0] 29)).setRow w1.heap.size #[.int .i64 te,.int .i64 tp]):=((Below.refl _ _).alloc (Nat.le_refl _) _).setRow (Nat.le_refl _) _;exact ⟨A,n,c,w1.heap.size,rfl,rfl,by omega,ho.out.tks.below hbb,setRow_heap _ _ _ _ _ _ (BX.new w1 #[.int .i64 0,.int .i64 0] 29),hb1.out.trans (hbb.mono hs1)⟩
 case rest=>
 obtain ⟨A,n,c,f,rfl,rfl,hf,ht,hbf,hbc⟩:=hcut
 go_step
 refine wp_mono (c:=qCM) (hN s w wc g A n c f hs (hid (HX.out.below hbc)) (hid ht) (hid hbf) hf _ ⟨rfl,rfl,rfl,rfl,rfl⟩) ?_
 intro e a w' h
 go_step
 exact h
set_option maxHeartbeats 16000000 in
theorem comp2 (hN:C3):C2:=by
 intro s w W g A n c f hs HX HT HF hf
 refine Rs.lay ?_
 iterate 176 intro _
 change Code.wp _ _ _ _ _
 conv=>arg 2; dsimp only [qCM,qCD,qCU,sndS,Try.f6,Option.getD]
 iterate 2 go_step
 go_cut [] (FMid W ((toks (bts s)).2.1=0))
 case first=>
  clear hN;have HZ0:=hid (fun h=>compZ_a (l:=bts s) h);generalize toks (bts s)=R at *;obtain ⟨ts,ie,ip⟩:=R;have y0:W.cell? ⟨f,0,none⟩=some (.int .i64 ie):=HF.out.c 0;have y1:W.cell? ⟨f,1,none⟩=some (.int .i64 ip):=HF.out.c 1
  by_cases he:ie=0
  · have gp:(ie != 0)=false:=by simpa using he
    have HE:=hid he;clear he HZ0
    go_wp2_with (first | go_skip | fail)
    go_meet
    exact ⟨rfl,HE.out⟩
  · have gp:(ie != 0)=true:=by simpa using he
    have HE:=hid he;have HZ:=hid (HZ0.out he);clear he HZ0
    go_upto_region 3 with (first | go_skip | fail)
    have HXd:=hid HX.out.drew;have HR:=hid (HXd.out.ret patZ (.int .i64 ie) (.int .i64 ip));refine wp_region_held_drew (S:=(fun W9:World=>W9.cell? ⟨f,0,none⟩=some (.int .i64 ie)∧W9.cell? ⟨f,1,none⟩=some (.int .i64 ip))) (by kernel_rfl) (⟨y0,y1⟩) (fun hHeld=>?_);refine' qt 0 hHeld ?_
    try simp only [pk]
    refine' qCB 1 (v:=_) rfl (by kernel_rfl) (by kernel_rfl) (by kernel_rfl) (fun _ _ _ h=>h) rfl ?y2 hHeld ?r2
    case y2=>
     intro w hSw
     try dsimp only at hSw
     have k0:=hSw.1;have k1:=hSw.2;go_simp
     try with_reducible rfl
    try simp only [pk]
    refine qp 2 fun K hK=>?_;refine wp_store_row 26 _ _ rfl g patZ rfl rfl 26 patZ HXd.out.bp (qA3 _ _ _ _ _ {} _ _ _) rfl (qA8 {}) ?_;refine hK.out _ _ (⟨(cell_setRow_other _ _ _ _ (by show f≠g; omega)).trans hHeld.1,(cell_setRow_other _ _ _ _ (by show f≠g; omega)).trans hHeld.2⟩) (fun hHeld=>?_);clear hK K
    try simp only [Act.put]
    refine qp 3 fun K hK=>?_;refine wp_store_row 29 _ _ rfl (g+1) #[.int .i64 ie,.int .i64 ip] rfl rfl 29 _ (qAI HXd.out.bf (by omega)) (qA6 _ _) rfl (qA9 _ _) ?_;refine hK.out _ _ (⟨(cell_setRow_other _ _ _ _ (by show f≠g+1; omega)).trans hHeld.1,(cell_setRow_other _ _ _ _ (by show f≠g+1; omega)).trans hHeld.2⟩) (fun hHeld=>?_);clear hK K
    try simp only [Act.put]
    refine wpAnyH_done (by kernel_rfl) ?_ _;clear hHeld
    go_wp2
    exact bodyPost_ret (v:=.tuple #[.agg patZ,.agg #[.int .i64 ie,.int .i64 ip]]) (qAE Try.results6 _ _ g _ _ (0,0) _ rfl HR.out.1 Try.underlying26 rfl (qA3 _ _ _ _ _ {} _ _ _) (g+1) _ _ (0,0) _ rfl HR.out.2.1 Try.underlying29 rfl (qA6 _ _)) rfl (qBF.fault HZ.out HE.out HR.out.2.2)
 case rest=>
 obtain ⟨rfl,ht⟩:=hcut
 go_step
 refine wp_mono (c:=qCV) (hN s w wc g A n c f _ _ hs HX HT HF hf ht _ ⟨rfl,rfl,rfl,rfl,rfl⟩) ?_
 intro e a w' h
 go_step
 exact h
set_option maxHeartbeats 16000000 in
theorem comp3 (hN:C4):C3:=by
 intro s w W g A n c f fx fy hs HX HT HF hf ht
 refine Rs.lay ?_
 iterate 176 intro _
 change Code.wp _ _ _ _ _
 conv=>arg 2; dsimp only [qCV,qCM,qCD,qCU,sndS,Try.f6,Option.getD]
 iterate 2 go_step
 go_cut [6] (VMid W (.slice none 0 0))
 case first=>
  clear hN
  go_wp2
  go_meet
  exact ⟨rfl,rfl⟩
 case rest=>
 obtain ⟨rfl,rfl⟩:=hcut
 go_step
 refine wp_mono (c:=qD0) (hN s w wc g A n c f fx fy hs HX HT HF hf ht _ ⟨rfl,rfl,rfl,rfl,rfl,rfl⟩) ?_
 intro e a w' h
 go_step
 exact h
def Mc4 (ts:List Tok) (W:World) (v:Value) (Wc:World):Prop:=∃ E m d,v=.slice E m d∧Rls Wc E m (elsL ts)∧m≤ts.length∧m≤d∧(∀ ad,E=some ad→W.heap.size≤ad.block∧ad.block < Wc.heap.size)∧Below W.heap.size W Wc∧elsB ts=none
theorem qCW {ts:List Tok} {k:Nat} (h:k < ts.length):ts.drop k=tk ts k :: ts.drop (k+1):=by rw [List.drop_eq_getElem_cons h,tk_eq h]
structure At4 (ts:List Tok) (W wr:World) (k:Nat) (av:Value) (m:Nat) (ex:List El):Prop where
 hm:m≤k
 o:wr.ownsRow W.heap.size 50 4 av m (elsR ex)
 r:∀ e ∈ ex,R32 e.1
 b:Below W.heap.size W wr
 l:elsL ts=ex++elsL (ts.drop k)
 e:elsB ts=elsB (ts.drop k)
section
variable {ts:List Tok} {W wr w':World} {k m:Nat} {av v':Value} {ex:List El}
theorem At4.one (h:At4 ts W wr k av m ex) (hk:k < ts.length) (hs:stT (tk ts k)=false) (hr:R32 (tk ts k)) (ho:w'.ownsRow W.heap.size 50 4 v' (m+1) (elsR (ex++[(tk ts k,false)]))) (hb:Below W.heap.size W w'):At4 ts W w' (k+1) v' (m+1) (ex++[(tk ts k,false)]):=by
 have h1:=h.l
 have h2:=h.e
 rw [qCW hk,qGQ hs] at h1
 rw [qCW hk,elsB_no hs] at h2
 refine ⟨by have:=h.hm; omega,ho,fun e he=>?_,hb,by rw [h1,List.append_assoc]; rfl,h2⟩
 rcases List.mem_append.1 he with he | he
 · exact h.r e he
 · rw [List.mem_singleton] at he; subst he; exact hr
theorem At4.two (h:At4 ts W wr k av m ex) (hk:k+1 < ts.length) (hs:stT (tk ts k)=true) {u:El} (hu:u=(((tk ts (k+1)).1,false,(tk ts k).2.2),true)) (hr:R32 (tk ts (k+1))) (ho:w'.ownsRow W.heap.size 50 4 v' (m+1) (elsR (ex++[u]))) (hb:Below W.heap.size W w'):At4 ts W w' (k+2) v' (m+1) (ex++[u]):=by
 have h1:=h.l
 have h2:=h.e
 rw [qCW (by omega),qCW hk,qGR hs] at h1
 rw [qCW (by omega),qCW hk,elsB_st hs] at h2
 refine ⟨by have:=h.hm; omega,ho,fun e he=>?_,hb,by rw [h1,hu,List.append_assoc]; rfl,h2⟩
 rcases List.mem_append.1 he with he | he
 · exact h.r e he
 · rw [List.mem_singleton] at he; subst he; subst hu; exact hr
theorem At4.bad (h:At4 ts W wr k av m ex) (hk:k+1=ts.length) (hs:stT (tk ts k)=true):elsB ts=some (tk ts k).2.2:=by
 rw [h.e,qCW (by omega),List.drop_of_length_le (by omega),qGS hs]
theorem At4.fin (h:At4 ts W wr ts.length av m ex) (hl:ts.length≤400):Mc4 ts W av wr:=by
 have h1:=h.l
 have h2:=h.e
 rw [List.drop_length] at h1 h2
 rw [show elsL []=[] from rfl,List.append_nil] at h1
 obtain ⟨A,c,rfl⟩:=qAN h.o
 have hm:=h.hm
 refine ⟨A,m,c,rfl,?_,hm,(own_cp h.o).1,(fun ad e=>by subst e; exact h.o.lt _ rfl),h.b,h2⟩
 rw [h1]
 exact ⟨qAZ.of_own h.o,by omega,h.r⟩
end
theorem plE_st (t:Tok):plE 42 (t,false)=stT t:=rfl
set_option maxHeartbeats 16000000 in
theorem comp4 (hN:C5):C4:=by
 intro s w W g A n c f fx fy hs HX HT HF hf ht
 refine Rs.lay ?_
 iterate 175 intro _
 change Code.wp _ _ _ _ _
 conv=>arg 2; dsimp only [qD0,qCV,qCM,qCD,qCU,sndS,Try.f6,Option.getD]
 iterate 2 go_step
 go_cut [6] (Mc4 (toks (bts s)).1 W)
 case first=>
  clear hN;have HNL:=hid HT.out.len;have H400:=hid (qFG (qAF s)).2.1;have HZ7:=hid (fun (a:Int) (h:elsB (toks (bts s)).1=some a)=>compZ_b ht h);have HST:Hid (At4 (toks (bts s)).1 W W 0 (.slice none 0 0) 0 []):=hid ⟨Nat.le_refl _,World.ownsRow_nil _ _ _ _,(fun e he=>by cases he),Below.refl _ _,rfl,rfl⟩;generalize (toks (bts s)).1=ts at *;clear HF
  go_wp2
  go_loopw [6,7] (fun av iv wr=>∃ (k m:Nat) (ex:List El),iv=.int .i64 (k:Int)∧k≤n∧At4 ts W wr k av m ex) (fun _ iv _=>n - (intOf iv).toNat)
  case atStart=>exact ⟨0,0,[],rfl,Nat.zero_le _,HST.out⟩
  case round=>
   obtain ⟨k,m,ex,rfl,hk,hat⟩:=hrel;have HAT:=hid hat;have HTr:=hid (HT.out.below hat.b);have HX:=hid (HX.out.below hat.b);have hgr:g+1 < wr.heap.size:=HX.out.bf.lt;clear hat HST;have hkn:k≤400:=by have:=H400.out; have:=HNL.out; omega
   by_cases hlt:k < n
   · have hll:k < ts.length:=by rw [HNL.out]; exact hlt
     obtain ⟨ad,hadA,hab,c0,c1,c2,hr⟩:=HTr.out.at_ hlt;subst hadA;have HR32:=hid hr;have HC:=hid (fun W=>qF4 (tk ts k,false) 42 W);rw [plE_st] at HC;have HONE:=hid (fun (w':World) (v':Value) (hs:stT (tk ts k)=false)=>HAT.out.one (w':=w') (v':=v') hll hs hr);have HTWO:=hid (fun (w':World) (v':Value) (u:El) (h:k+1 < ts.length) (hs:stT (tk ts k)=true)=>HAT.out.two (w':=w') (v':=v') (u:=u) h hs);have HBAD:=hid (fun (h:k+1=ts.length) (hs:stT (tk ts k)=true)=>HZ7.out _ (HAT.out.bad h hs));clear hr;have HTK:=hid (show stT (tk ts k)=true→(tk ts k).2.1=false from fun h=>by rw [stT,Bool.and_eq_true] at h; simpa using h.1);generalize tk ts k=t at *;obtain ⟨r,q1,a⟩:=t;dsimp only at c0 c1 c2 HTK
     change Hid (∀ W,Calls _ _ #[.agg #[.int .i32 r,.bool q1,.int .i64 a,.bool false],_] _ _) at HC
     go_upto_region 9 with (first | go_skip | fail)
     have HEb:=hid (BX.new wr #[.int .i32 r,.bool q1,.int .i64 a,.bool false] 50);have HB9:=hid (show Below wr.heap.size wr (wr.alloc (.cells #[.int .i32 r,.bool q1,.int .i64 a,.bool false] 50)) from (Below.refl _ _).alloc (Nat.le_refl _) _);have hb9:wr.heap.size < (wr.alloc (.cells #[.int .i32 r,.bool q1,.int .i64 a,.bool false] 50)).heap.size:=by simp
     have hDs:W.heap.size≤wr.heap.size:=HAT.out.b.size;have HO:=hid HAT.out.o;have HOB:Hid (∀ j,u6.ownBlock=some j→j < wr.heap.size):=hid fun j hj=>(HAT.out.o.lt j hj).2
     have HAB:=hid HAT.out.b;have hmk:=HAT.out.hm;generalize wr.alloc (.cells #[.int .i32 r,.bool q1,.int .i64 a,.bool false] 50)=W9 at *;clear c0 c1 c2;have x0:W9.cell? ⟨wr.heap.size,0,none⟩=some (.int .i32 r):=HEb.out.c 0;have x1:W9.cell? ⟨wr.heap.size,1,none⟩=some (.bool q1):=HEb.out.c 1;have x2:W9.cell? ⟨wr.heap.size,2,none⟩=some (.int .i64 a):=HEb.out.c 2;have x3:W9.cell? ⟨wr.heap.size,3,none⟩=some (.bool false):=HEb.out.c 3
     cases hst:stT (r,q1,a)
     · rw [hst] at HC
       have HS:=hid (fun (w':World) (v':Value)=>HONE.out w' v' hst);clear hst HONE HTWO HBAD
       go_upto_region 15 with (first | go_skip | (go_at_call 16; refine (HC.out _).mono ?_; rintro e w1 ⟨rfl,hb1⟩; clear HC))
       have HE1:=hid (HEb.out.below hb1 hb9);have HBw:=hid (HB9.out.trans (hb1.mono (Nat.le_of_lt hb9)));have OE:=hid (qHF HO.out HOB.out HBw.out);have BG:=hid (HAB.out.trans (HBw.out.mono hDs));have hsz:=BG.out.size;have e0:w1.cell? ⟨wr.heap.size,0,none⟩=some (.int .i32 r):=HE1.out.c 0;have e1:w1.cell? ⟨wr.heap.size,1,none⟩=some (.bool q1):=HE1.out.c 1;have e2:w1.cell? ⟨wr.heap.size,2,none⟩=some (.int .i64 a):=HE1.out.c 2;have e3:w1.cell? ⟨wr.heap.size,3,none⟩=some (.bool false):=HE1.out.c 3;clear x0 x1 x2 x3
       go_wp2_with (first | go_skip | (at_builtin; go_must (refine qDS (w0:=W) rfl (.tmp 60) (.tmp 62) _ rfl Try.underlying46 W.heap.size u6 m ex rfl OE.out ((r,q1,a),false) rfl r q1 a false rfl (by omega) BG.out hsz ?_)) | fail)
       intro v' w' ho4 hb4 _
       go_wp2
       go_roundw
       case rel=>exact ⟨k+1,m+1,_,by go_num,by omega,HS.out _ _ ho4.out hb4.out⟩
       case measure=>simp [intOf]; omega
     · rw [hst] at HC
       obtain rfl:q1=false:=HTK.out hst
       by_cases hk1:k+1=n
       · have HZ:=hid (HBAD.out (by rw [HNL.out]; exact hk1) hst)
         have gw:((k:Int)+1 == (n:Int))=true:=by rw [beq_iff_eq]; omega
         clear hst HONE HTWO HBAD
         go_upto_region 11 with (first | go_skip | (go_at_call 16; refine (HC.out _).mono ?_; rintro e w1 ⟨rfl,hb1⟩; clear HC))
         have HE1:=hid (HEb.out.below hb1 hb9);have HX:=hid (HX.out.below (HB9.out.trans (hb1.mono (Nat.le_of_lt hb9))));have hgb:=HX.out.bf.lt;have e2:w1.cell? ⟨wr.heap.size,2,none⟩=some (.int .i64 a):=HE1.out.c 2;clear x0 x1 x2 x3;have HXd:=hid HX.out.drew;have HR:=hid (HXd.out.ret patZ (.int .i64 7) (.int .i64 a));refine wp_region_held_drew (S:=(fun W9:World=>W9.cell? ⟨wr.heap.size,2,none⟩=some (.int .i64 a))) (by kernel_rfl) (e2) (fun hHeld=>?_);refine' qt 0 hHeld ?_
         try simp only [pk]
         refine' qt 1 hHeld ?_
         try simp only [pk]
         refine' qt 2 hHeld ?_
         try simp only [pk]
         refine' qt 3 hHeld ?_
         try simp only [pk]
         refine' qt 4 hHeld ?_
         try simp only [pk]
         refine qp 5 fun K hK=>?_;refine wp_store_row 26 _ _ rfl g patZ rfl rfl 26 patZ HXd.out.bp (qA3 _ _ _ _ _ {} _ _ _) rfl (qA8 {}) ?_;refine hK.out _ _ ((cell_setRow_other _ _ _ _ (by show wr.heap.size≠g; omega)).trans hHeld) (fun hHeld=>?_);clear hK K
         try simp only [Act.put]
         refine qp 6 fun K hK=>?_;refine wp_store_row 29 _ _ rfl (g+1) #[.int .i64 7,.int .i64 a] rfl rfl 29 _ (qAI HXd.out.bf (by omega)) (qA6 _ _) rfl (qA9 _ _) ?_;refine hK.out _ _ ((cell_setRow_other _ _ _ _ (by show wr.heap.size≠g+1; omega)).trans hHeld) (fun hHeld=>?_);clear hK K
         try simp only [Act.put]
         refine wpAnyH_done (by kernel_rfl) ?_ _;clear hHeld
         go_wp2
         exact bodyPost_ret (v:=.tuple #[.agg patZ,.agg #[.int .i64 7,.int .i64 a]]) (qAE Try.results6 _ _ g _ _ (0,0) _ rfl HR.out.1 Try.underlying26 rfl (qA3 _ _ _ _ _ {} _ _ _) (g+1) _ _ (0,0) _ rfl HR.out.2.1 Try.underlying29 rfl (qA6 _ _)) rfl (qBF.fault HZ.out (by decide) HR.out.2.2)
       · have hk2:k+1 < n:=by omega
         obtain ⟨ad',hadA',hab',d0,d1,d2,hr'⟩:=HTr.out.at_ hk2
         cases hadA'
         have HS:=hid (fun (w':World) (v':Value)=>HTWO.out w' v' (((tk ts (k+1)).1,false,a),true) (by rw [HNL.out]; exact hk2) hst rfl hr');clear hst HONE HTWO HBAD d1 d2 hr';generalize (tk ts (k+1)).1=y at *;have gw:((k:Int)+1 == (n:Int))=false:=by rw [beq_eq_false_iff_ne]; omega
         go_upto_region 12 with (first | go_skip | (go_at_call 16; refine (HC.out _).mono ?_; rintro e w1 ⟨rfl,hb1⟩; clear HC))
         have HE1:=hid (HEb.out.below hb1 hb9);have HBw:=hid (HB9.out.trans (hb1.mono (Nat.le_of_lt hb9)));have D0:=(HBw.out.cell (p:=ad.add ((k+1) * 3)) (by rw [qA7]; exact hab)).trans d0;clear x0 x1 x2 x3 d0;have e0:w1.cell? ⟨wr.heap.size,0,none⟩=some (.int .i32 r):=HE1.out.c 0;have e1:w1.cell? ⟨wr.heap.size,1,none⟩=some (.bool false):=HE1.out.c 1;have e2:w1.cell? ⟨wr.heap.size,2,none⟩=some (.int .i64 a):=HE1.out.c 2;have e3:w1.cell? ⟨wr.heap.size,3,none⟩=some (.bool false):=HE1.out.c 3;have f0:=HE1.out.fr 0;have f3:=HE1.out.fr 3;have hW1:wr.heap.size < w1.heap.size:=HE1.out.lt;have D1:(w1.setCell ⟨wr.heap.size,3,none⟩ (.bool true)).cell? (ad.add ((k+1) * 3))=some (.int .i32 y):=(((Below.refl wr.heap.size w1).setCell (p:=⟨wr.heap.size,3,none⟩) (Nat.le_refl _) (.bool true)).cell (p:=ad.add ((k+1) * 3)) (by rw [qA7]; exact hab)).trans D0;have HE2:=hid (show BX ((w1.setCell ⟨wr.heap.size,3,none⟩ (.bool true)).setCell ⟨wr.heap.size,0,none⟩ (.int .i32 y)) wr.heap.size #[.int .i32 y,.bool false,.int .i64 a,.bool true] 50 from heap_setCell_same _ wr.heap.size 0 _ 50 _ (heap_setCell_same w1 wr.heap.size 3 _ 50 _ HE1.out));have HBv:=hid (show Below wr.heap.size wr ((w1.setCell ⟨wr.heap.size,3,none⟩ (.bool true)).setCell ⟨wr.heap.size,0,none⟩ (.int .i32 y)) from (HBw.out.setCell (p:=⟨wr.heap.size,3,none⟩) (Nat.le_refl _) _).setCell (p:=⟨wr.heap.size,0,none⟩) (Nat.le_refl _) _)
         go_upto_region 14 with (first | go_skip | fail)
         generalize (w1.setCell ⟨wr.heap.size,3,none⟩ (.bool true)).setCell ⟨wr.heap.size,0,none⟩ (.int .i32 y)=W2 at *;clear e0 e1 e2 e3 f0 f3 D0 D1;have OE:=hid (qHF HO.out HOB.out HBv.out);have BG:=hid (HAB.out.trans (HBv.out.mono hDs));have hsz:=BG.out.size;have e0:W2.cell? ⟨wr.heap.size,0,none⟩=some (.int .i32 y):=HE2.out.c 0;have e1:W2.cell? ⟨wr.heap.size,1,none⟩=some (.bool false):=HE2.out.c 1;have e2:W2.cell? ⟨wr.heap.size,2,none⟩=some (.int .i64 a):=HE2.out.c 2;have e3:W2.cell? ⟨wr.heap.size,3,none⟩=some (.bool true):=HE2.out.c 3
         go_wp2_with (first | go_skip | (at_builtin; go_must (refine qDS (w0:=W) rfl (.tmp 60) (.tmp 62) _ rfl Try.underlying46 W.heap.size u6 m ex rfl OE.out ((y,false,a),true) rfl y false a true rfl (by omega) BG.out hsz ?_)) | fail)
         intro v' w' ho4 hb4 _
         go_wp2
         go_roundw
         case rel=>exact ⟨k+2,m+1,_,by go_num,by omega,HS.out _ _ ho4.out hb4.out⟩
         case measure=>simp [intOf]; omega
   · obtain rfl:k=n:=by omega
     have HE:=hid (At4.fin (HNL.out ▸ HAT.out) H400.out)
     go_wp2_with (first | go_skip | fail)
     go_meet
     exact HE.out
 case rest=>
 obtain ⟨E,m,d,rfl,he,hm,hd,hel,hbc,hnb⟩:=hcut
 go_step
 refine wp_mono (c:=qDF) (hN s w wc g f fx fy E m d wc.heap.size hs (hid (HX.out.below hbc)) (hid (HF.out.below hbc HF.out.lt)) hf ht (hid he) (Nat.le_trans hm (qFG (qAF s)).2.1) hd (fun ad e=>⟨Nat.lt_of_lt_of_le HF.out.lt (hel ad e).1,(hel ad e).2⟩) (Nat.le_refl _) hnb _ ⟨rfl,rfl,rfl,rfl,rfl⟩) ?_
 intro e a w' h
 go_step
 exact h
def Mc6 (es:List El) (W:World) (v:Value) (Wc:World):Prop:=∃ sm,v=.int .i64 sm∧qEM es sm∧Below W.heap.size W Wc
def At6 (es:List El) (k:Nat) (sm:Int):Prop:=(sm=-1∧∀ e ∈ es.take k,smi e=false)∨∃ j:Nat,j < k∧sm=(j:Int)∧(∃ h:j < es.length,smi es[j]=true)∧(∀ e ∈ es.take j,smi e=false)∧∀ e ∈ (es.take k).drop (j+1),smi e=false
theorem qHQ {α:Type} {l:List α} {k:Nat} (h:k < l.length):∀ e ∈ l.take (k+1),e ∈ l.take k∨e=l[k]:=by
 intro e he
 rw [List.take_succ_eq_append_getElem h] at he
 rcases List.mem_append.1 he with he | he
 · exact .inl he
 · exact .inr (List.mem_singleton.1 he)
section
variable {es:List El} {k:Nat} {sm:Int}
theorem At6.no (h:At6 es k sm) (hk:k < es.length) (hs:smi (el4 es k)=false):At6 es (k+1) sm:=by
 rw [qBZ hk] at hs
 rcases h with ⟨h1,h2⟩ | ⟨j,hj,h1,h2,h3,h4⟩
 · refine .inl ⟨h1,fun e he=>?_⟩
   rcases qHQ hk e he with he | rfl
   · exact h2 e he
   · exact hs
 · refine .inr ⟨j,by omega,h1,h2,h3,fun e he=>?_⟩
   rw [List.take_succ_eq_append_getElem hk,List.drop_append_of_le_length (by rw [List.length_take]; omega)] at he
   rcases List.mem_append.1 he with he | he
   · exact h4 e he
   · rw [List.mem_singleton.1 he]; exact hs
theorem At6.one (h:At6 es k sm) (hk:k < es.length) (hs:smi (el4 es k)=true) (hn:¬ 0≤sm):At6 es (k+1) (k:Int):=by
 rw [qBZ hk] at hs
 rcases h with ⟨h1,h2⟩ | ⟨j,hj,h1,h2,h3,h4⟩
 · refine .inr ⟨k,by omega,rfl,⟨hk,hs⟩,h2,fun e he=>?_⟩
   rw [List.drop_of_length_le (by rw [List.length_take]; omega)] at he; cases he
 · omega
theorem fst_snd {j:Nat} (hj:j < es.length) (hs:smi es[j]=true) (h:∀ e ∈ es.take j,smi e=false):qA4 es=es.take j∧qBE es=es[j] :: es.drop (j+1):=by
 have:=smi_all h (es.drop j) (fun e he=>by
  rw [List.drop_eq_getElem_cons hj] at he;obtain rfl:=Option.some.inj he;exact hs)
 rw [List.take_append_drop,List.drop_eq_getElem_cons hj] at this
 exact this
theorem At6.bad (h:At6 es k sm) (hk:k < es.length) (hs:smi (el4 es k)=true) (hn:0≤sm):qC0 es=({},4,(el4 es k).1.2.2):=by
 rw [qBZ hk] at hs ⊢
 rcases h with ⟨h1,h2⟩ | ⟨j,hj,h1,⟨hjl,h2⟩,h3,h4⟩
 · omega
 · have a:=(fst_snd hjl h2 h3).2
   have hlen:k - (j+1) < (es.drop (j+1)).length:=by rw [List.length_drop]; omega
   have hg:(es.drop (j+1))[k - (j+1)]=es[k]:=by rw [List.getElem_drop]; congr 1; omega
   have b:=(fst_snd (es:=es.drop (j+1)) hlen (by rw [hg]; exact hs) (by rw [List.take_drop,show j+1+(k - (j+1))=k by omega]; exact h4)).2;rw [hg] at b;exact compE_2 a b
theorem At6.fin (h:At6 es es.length sm):qEM es sm:=by
 rcases h with ⟨h1,h2⟩ | ⟨j,hj,h1,⟨hjl,h2⟩,h3,h4⟩
 · rw [List.take_length] at h2
   exact .inl ⟨(smi_none h2).2,h1⟩
 · obtain ⟨a1,a2⟩:=fst_snd hjl h2 h3
   rw [List.take_length] at h4;exact .inr ⟨_,_,a2,(smi_none h4).2,by rw [a1,List.length_take,Nat.min_eq_left (by omega),h1]⟩
end
theorem plE_smi (e:El):plE 59 e=smi e:=rfl
set_option maxHeartbeats 16000000 in
theorem comp5 (hN:C6):C5:=by
 intro s w W g f fx fy E m d eb hs HX HF hf ht HE hm hd hel heb hnb
 refine Rs.lay ?_
 iterate 176 intro _
 change Code.wp _ _ _ _ _
 conv=>arg 2; dsimp only [qDF,qD0,qCV,qCM,qCD,qCU,sndS,Try.f6,Option.getD]
 iterate 2 go_step
 go_cut [9] (VMid W (.int .i64 (-1)))
 case first=>
  clear hN
  go_wp2
  go_meet
  exact ⟨rfl,rfl⟩
 case rest=>
 obtain ⟨rfl,rfl⟩:=hcut
 go_step
 refine wp_mono (c:=qDO) (hN s w wc g f fx fy E m d eb hs HX HF hf ht HE hm hd hel heb hnb _ ⟨rfl,rfl,rfl,rfl,rfl,rfl⟩) ?_
 intro e a w' h
 go_step
 exact h
set_option maxHeartbeats 16000000 in
theorem comp6 (hN:C7):C6:=by
 intro s w W g f fx fy E m d eb hs HX HF hf ht HE hm hd hel heb hnb
 refine Rs.lay ?_
 iterate 175 intro _
 change Code.wp _ _ _ _ _
 conv=>arg 2; dsimp only [qDO,qDF,qD0,qCV,qCM,qCD,qCU,sndS,Try.f6,Option.getD]
 iterate 2 go_step
 go_cut [9] (Mc6 (elsL (toks (bts s)).1) W)
 case first=>
  clear hN;have HNL:=hid HE.out.len;have HZ:=hid (fun x (h:qC0 (elsL (toks (bts s)).1)=x)=>(compZ_e ht hnb).trans h);generalize elsL (toks (bts s)).1=es at *;clear HF hnb
  go_wp2
  go_loopw [9,10] (fun v iv wr=>∃ (k:Nat) (sm:Int),iv=.int .i64 (k:Int)∧k≤m∧v=.int .i64 sm∧At6 es k sm∧Below W.heap.size W wr) (fun _ iv _=>m - (intOf iv).toNat)
  case atStart=>exact ⟨0,-1,rfl,Nat.zero_le _,rfl,.inl ⟨rfl,fun e he=>by rw [List.take_zero] at he; cases he⟩,Below.refl _ _⟩
  case round=>
   obtain ⟨k,sm,rfl,hk,rfl,hat,hbb⟩:=hrel;have HAT:=hid hat;have HBB:=hid hbb;have HEr:=hid (HE.out.below hbb);have HX:=hid (HX.out.below hbb);clear hat hbb
   by_cases hlt:k < m
   · have hll:k < es.length:=by rw [HNL.out]; exact hlt
     obtain ⟨ad,hadA,hab,c0,c1,c2,c3,-⟩:=HEr.out.at_ hlt;subst hadA;have HC:=hid (fun W=>qF4 (el4 es k) 59 W);rw [plE_smi] at HC;have HNO:=hid (fun h=>HAT.out.no hll h);have HON:=hid (fun h h2=>HAT.out.one hll h h2);have HBA:=hid (fun h h2=>HZ.out _ (HAT.out.bad hll h h2));generalize el4 es k=el at *;obtain ⟨⟨r,q1,a⟩,p⟩:=el;dsimp only at c0 c1 c2 c3 HBA
     change Hid (∀ W,Calls _ _ #[.agg #[.int .i32 r,.bool q1,.int .i64 a,.bool p],_] _ _) at HC
     cases hst:smi ((r,q1,a),p)
     · rw [hst] at HC
       have HS:=hid (HNO.out hst);clear hst HNO HON HBA
       go_wp2_with (first | go_skip | (go_at_call 16; refine (HC.out _).mono ?_; rintro e w1 ⟨rfl,hb1⟩; clear HC) | fail)
       go_roundw
       case rel=>exact ⟨k+1,sm,by go_num,by omega,rfl,HS.out,HBB.out.trans (hb1.mono HBB.out.size)⟩
       case measure=>simp [intOf]; omega
     · rw [hst] at HC
       by_cases hsm:0≤sm
       · have HZ4:=hid (HBA.out hst hsm)
         have gp:decide (0≤sm)=true:=decide_eq_true hsm;clear hst HNO HON HBA
         go_upto_region 21 with (first | go_skip | (go_at_call 16; refine (HC.out _).mono ?_; rintro e w1 ⟨rfl,hb1⟩; clear HC))
         have HX:=hid (HX.out.below hb1);have d2:=(hb1.cell (p:=⟨(ad.add (k * 4)).block,(ad.add (k * 4)).off+2,none⟩) (by show (ad.add (k * 4)).block < _; rw [qA7]; exact hab)).trans c2;clear c0 c1 c2 c3;have hgad:=(hel _ rfl).1
         go_upto_region 22 with (first | go_skip | fail)
         have HXd:=hid HX.out.drew;have HR:=hid (HXd.out.ret patZ (.int .i64 4) (.int .i64 a));refine wp_region_held_drew (S:=(fun W9:World=>W9.cell? ⟨(ad.add (k * 4)).block,(ad.add (k * 4)).off+2,none⟩=some (.int .i64 a))) (by kernel_rfl) (d2) (fun hHeld=>?_);refine' qt 0 hHeld ?_
         try simp only [pk]
         refine' qt 1 hHeld ?_
         try simp only [pk]
         refine' qt 2 hHeld ?_
         try simp only [pk]
         refine' qt 3 hHeld ?_
         try simp only [pk]
         refine' qt 4 hHeld ?_
         try simp only [pk]
         refine' qt 5 hHeld ?_
         try simp only [pk]
         refine' qt 6 hHeld ?_
         try simp only [pk]
         refine' qt 7 hHeld ?_
         try simp only [pk]
         refine qp 8 fun K hK=>?_;refine wp_store_row 26 _ _ rfl g patZ rfl rfl 26 patZ HXd.out.bp (qA3 _ _ _ _ _ {} _ _ _) rfl (qA8 {}) ?_;refine hK.out _ _ ((cell_setRow_other _ _ _ _ (by show (ad.add (k * 4)).block≠g; rw [qA7]; omega)).trans hHeld) (fun hHeld=>?_);clear hK K
         try simp only [Act.put]
         refine qp 9 fun K hK=>?_;refine wp_store_row 29 _ _ rfl (g+1) #[.int .i64 4,.int .i64 a] rfl rfl 29 _ (qAI HXd.out.bf (by omega)) (qA6 _ _) rfl (qA9 _ _) ?_;refine hK.out _ _ ((cell_setRow_other _ _ _ _ (by show (ad.add (k * 4)).block≠g+1; rw [qA7]; omega)).trans hHeld) (fun hHeld=>?_);clear hK K
         try simp only [Act.put]
         refine wpAnyH_done (by kernel_rfl) ?_ _;clear hHeld
         go_wp2
         exact bodyPost_ret (v:=.tuple #[.agg patZ,.agg #[.int .i64 4,.int .i64 a]]) (qAE Try.results6 _ _ g _ _ (0,0) _ rfl HR.out.1 Try.underlying26 rfl (qA3 _ _ _ _ _ {} _ _ _) (g+1) _ _ (0,0) _ rfl HR.out.2.1 Try.underlying29 rfl (qA6 _ _)) rfl (qBF.fault HZ4.out (by decide) HR.out.2.2)
       · have HS:=hid (HON.out hst hsm)
         have gp:decide (0≤sm)=false:=decide_eq_false hsm;clear hst HNO HON HBA
         go_wp2_with (first | go_skip | (go_at_call 16; refine (HC.out _).mono ?_; rintro e w1 ⟨rfl,hb1⟩; clear HC) | fail)
         go_roundw
         case rel=>exact ⟨k+1,k,by go_num,by omega,rfl,HS.out,HBB.out.trans (hb1.mono HBB.out.size)⟩
         case measure=>simp [intOf]; omega
   · obtain rfl:k=m:=by omega
     have HS:=hid (At6.fin (HNL.out ▸ HAT.out))
     go_wp2_with (first | go_skip | fail)
     go_meet
     exact ⟨sm,rfl,HS.out,HBB.out⟩
 case rest=>
 obtain ⟨sm,rfl,hS,hbc⟩:=hcut
 go_step
 refine wp_mono (c:=qE2) (hN s w wc g f fx fy E m d eb sm hs (hid (HX.out.below hbc)) (hid (HF.out.below hbc HF.out.lt)) hf ht (hid (HE.out.below hbc)) hm hd hel (Nat.le_trans heb hbc.size) hnb (hid hS) _ ⟨rfl,rfl,rfl,rfl,rfl,rfl⟩) ?_
 intro e a w' h
 go_step
 exact h
def Mc9 (f:Nat) (R:Hf × Int × Int) (W:World) (v:Value) (Wc:World):Prop:=∃ h lo hi hv w1,v=.pointer (some ⟨h,0,none⟩)∧Below W.heap.size W w1∧Wc=w1.setRow f #[.int .i64 R.2.1,.int .i64 R.2.2]∧BX Wc h hv 53∧BX Wc f #[.int .i64 R.2.1,.int .i64 R.2.2] 29∧f < lo∧hi≤h∧W.heap.size≤h∧(R.2.1=0→HfB lo hi Wc hv R.1)
set_option maxHeartbeats 16000000 in
theorem comp7 (hN:C8):C7:=by
 intro s w W g f fx fy E m d eb sm hs HX HF hf ht HE hm hd hel heb hnb HS
 refine Rs.lay ?_
 iterate 175 intro _
 change Code.wp _ _ _ _ _
 conv=>arg 2; dsimp only [qE2,qDO,qDF,qD0,qCV,qCM,qCD,qCU,sndS,Try.f6,Option.getD]
 iterate 2 go_step
 go_cut [11] (VMid W (.slice E m d))
 case first=>
  clear hN
  go_wp2
  go_meet
  exact ⟨rfl,rfl⟩
 case rest=>
 obtain ⟨rfl,rfl⟩:=hcut
 go_step
 refine wp_mono (c:=qEB) (hN s w wc g f fx fy E m d eb sm hs HX HF hf ht HE hm hd hel heb hnb HS _ ⟨rfl,rfl,rfl,rfl,rfl,rfl,rfl⟩) ?_
 intro e a w' h
 go_step
 exact h
set_option maxHeartbeats 16000000 in
theorem comp8 (hN:C9):C8:=by
 intro s w W g f fx fy E m d eb sm hs HX HF hf ht HE hm hd hel heb hnb HS
 refine Rs.lay ?_
 iterate 174 intro _
 change Code.wp _ _ _ _ _
 conv=>arg 2; dsimp only [qEB,qE2,qDO,qDF,qD0,qCV,qCM,qCD,qCU,sndS,Try.f6,Option.getD]
 iterate 2 go_step
 go_cut [11] (VMid W (.slice E (qA4 (elsL (toks (bts s)).1)).length d))
 case first=>
  clear hN;have HNL:=hid HE.out.len;generalize (elsL (toks (bts s)).1)=es at *
  rcases HS.out with ⟨h1,rfl⟩ | ⟨e,r,h1,h2,rfl⟩
  · have hl:(qA4 es).length=m:=by
     have e:es=qA4 es++qBE es:=List.takeWhile_append_dropWhile.symm;rw [h1,List.append_nil] at e;rw [← e]; exact HNL.out
    have HLL:=hid hl;clear h1 hl
    go_wp2_with (first | go_skip | fail)
    go_meet
    exact ⟨by rw [HLL.out],rfl⟩
  · have hl:(qA4 es).length≤d:=by
     have e:=congrArg List.length (show es=qA4 es++qBE es from List.takeWhile_append_dropWhile.symm);rw [List.length_append] at e;have:=HNL.out;omega
    clear h1 h2;generalize (qA4 es).length=L at *;have gp:decide ((0:Int)≤(L:Int))=true:=decide_eq_true (by omega)
    go_wp2_with (first | go_skip | fail)
    go_meet
    exact ⟨rfl,rfl⟩
 case rest=>
 obtain ⟨rfl,rfl⟩:=hcut
 go_step
 refine wp_mono (c:=qEN) (hN s w wc g f fx fy E m d eb sm hs HX HF hf ht HE hm hd hel heb hnb HS _ ⟨rfl,rfl,rfl,rfl,rfl,rfl,rfl⟩) ?_
 intro e a w' h
 go_step
 exact h
set_option maxHeartbeats 16000000 in
theorem comp9 (hN:C10):C9:=by
 intro s w W g f fx fy E m d eb sm hs HX HF hf ht HE hm hd hel heb hnb HS
 refine Rs.lay ?_
 iterate 174 intro _
 change Code.wp _ _ _ _ _
 conv=>arg 2; dsimp only [qEN,qEB,qE2,qDO,qDF,qD0,qCV,qCM,qCD,qCU,sndS,Try.f6,Option.getD]
 iterate 2 go_step
 go_cut [12] (Mc9 f (halfZ true 0 (qA4 (elsL (toks (bts s)).1))) W)
 case first=>
  clear hN;have HNL:=hid HE.out.len;have hfl:(qA4 (elsL (toks (bts s)).1)).length≤m:=by
   have e:=congrArg List.length (show (elsL (toks (bts s)).1)=qA4 (elsL (toks (bts s)).1)++qBE (elsL (toks (bts s)).1) from List.takeWhile_append_dropWhile.symm);rw [List.length_append] at e;have:=HNL.out;omega
  have hft:qA4 (elsL (toks (bts s)).1)=(elsL (toks (bts s)).1).take (qA4 (elsL (toks (bts s)).1)).length:=by
   have e:(elsL (toks (bts s)).1)=qA4 (elsL (toks (bts s)).1)++qBE (elsL (toks (bts s)).1):=List.takeWhile_append_dropWhile.symm;have e2:(qA4 (elsL (toks (bts s)).1)++qBE (elsL (toks (bts s)).1)).take (qA4 (elsL (toks (bts s)).1)).length=qA4 (elsL (toks (bts s)).1):=List.take_left' rfl;rw [← e] at e2;exact e2.symm
  have HRL:Hid (Rls W E (qA4 (elsL (toks (bts s)).1)).length (qA4 (elsL (toks (bts s)).1))):=hid (by
   have:=HE.out.take hfl;rw [← hft] at this;exact this)
  clear hft;have HC:=hid ((qHO (qA4 (elsL (toks (bts s)).1)) E (qA4 (elsL (toks (bts s)).1)).length d 0 true W HRL.out (by omega)).mono (fun e w' h=>qAX.sz h));have HFb:=hid (fun w1 (hb:Below W.heap.size W w1)=>HF.out.below hb HF.out.lt);have hfW:=HF.out.lt;generalize halfZ true 0 (qA4 (elsL (toks (bts s)).1))=R at *;obtain ⟨ra,re,rp⟩:=R;generalize (qA4 (elsL (toks (bts s)).1)).length=L at *;clear HRL HE HS HF;dsimp only at HC
  go_wp2_with (first
   | go_skip
   | (go_at_call 17; refine HC.out.mono ?_; rintro e w1 ⟨hv,rfl,hsz,hcs,hzs,hD,hb1⟩; clear HC; have HF1:=hid ((HFb.out w1 hb1).alloc (.cells dhZ 53)); have HD:=hid hD; clear hD)
   | (refine wpList_store_row rfl 53 _ _ rfl w1.heap.size hv rfl rfl 53 dhZ (BX.new w1 dhZ 53) hsz hzs hcs ?_)
   | (refine wpList_store_row rfl 29 _ _ rfl f #[.int .i64 re,.int .i64 rp] rfl rfl 29 _ (qAI HF1.out (by have:=hb1.size; omega)) (qA6 _ _) rfl (qA9 _ _) ?_)
   | fail)
  go_meet
  have hs1:=hb1.size;have hfw:f≠w1.heap.size:=by omega
  have hba:Below W.heap.size W ((w1.alloc (.cells dhZ 53)).setRow w1.heap.size hv):=(hb1.alloc hs1 _).setRow hs1 _;refine ⟨w1.heap.size,W.heap.size,w1.heap.size,hv,_,rfl,hba,rfl,qAI (setRow_heap _ _ _ _ _ _ (BX.new w1 dhZ 53)) (by omega),setRow_heap _ _ _ _ _ _ (qAI HF1.out hfw),hfW,Nat.le_refl _,hs1,fun h0=>?_⟩;obtain ⟨A1,n1,c1,A2,n2,c2,e1,k1,k2⟩:=HD.out h0;have hbw:Below w1.heap.size w1 ((w1.alloc (.cells dhZ 53)).setRow w1.heap.size hv):=((Below.refl _ _).alloc (Nat.le_refl _) _).setRow (Nat.le_refl _) _;exact ⟨A1,n1,c1,A2,n2,c2,e1,(k1.below hbw (Nat.le_refl _)).row (.inl hfW) _,(k2.below hbw (Nat.le_refl _)).row (.inl hfW) _⟩
 case rest=>
 obtain ⟨h,lo,hi,hv,w1,rfl,hb1,rfl,hbx,hbf,hlo,hhi,hWh,hD⟩:=hcut
 have hbq:Below f W (w1.setRow f #[.int .i64 (halfZ true 0 (qA4 (elsL (toks (bts s)).1))).2.1,.int .i64 (halfZ true 0 (qA4 (elsL (toks (bts s)).1))).2.2]):=(hb1.mono (Nat.le_of_lt HF.out.lt)).setRow (Nat.le_refl _) _
 go_step
 refine wp_mono (c:=qCY) (hN s w _ g f E m d eb sm h lo hi hv hs (hid (HX.out.keep (hbq.mono (by omega)))) (hid hbf) hf ht (hid ((HE.out.below hb1).row (fun ad e=>by have:=hel ad e; omega) _)) hm hd hel (Nat.le_trans heb hWh) (Nat.lt_of_lt_of_le HF.out.lt hWh) hnb HS (hid hbx) hlo hhi (hid hD) _ ⟨rfl,rfl,rfl,rfl,rfl,rfl,rfl⟩) ?_
 intro e a w' h
 go_step
 exact h
end Go.Proofs.Ytohfadegildnaaa
