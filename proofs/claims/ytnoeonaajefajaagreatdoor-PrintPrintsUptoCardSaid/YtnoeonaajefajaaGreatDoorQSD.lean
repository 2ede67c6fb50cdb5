import Derived.Test.YtnoeonaajefajaaGreatDoorQSC
import Derived.Test.YtnoeonaajefajaaGreatDoorQSB
import Derived.Test.YtnoeonaajefajaaGreatDoorQNZ
import Derived.Test.YtnoeonaajefajaaGreatDoorQSA
set_option linter.all false
set_option maxRecDepth 100000
namespace Go.Proofs.YtnoeonaajefajaaGreatDoor
open Go.RowKit
open Lib (hid)
theorem qDC {W w0:World} {ops:Array Oper} {rest:List Oper} {o:Oper} {a:Act} {Q:Exit→Act→World→Prop} (hgd:o.guard=none) (s x:Operand) (t:TypeId)
 (ho:o.op=.call { callee:=.builtin .append,args:=#[s,x],argTypes:=#[t,t] }) (ht:Tryz.prog.underlying t=some (.slice 67))
 (base:Nat) (v:Value) (k:Nat) (xs:List Itm) (hs:a.eval s=v) (hown:W.ownsRow base 67 2 v k (itsV xs)) {lo hi:Nat} (A:Option Addr) (m c:Nat) (ys:List Itm)
 (hx:a.eval x=.slice A m c) (hr:Btw W lo hi A m c ys) (hk:k+m≤1000000000000) (hb:Below base w0 W) (hbase:base≤W.heap.size)
 (h:∀ v' w',Hid (w'.ownsRow base 67 2 v' (k+m) (itsV (xs++ys)))→Hid (Below base w0 w')→wpList Tryz.prog ops Q rest (a.put o.dst v') w') :
 wpList Tryz.prog ops Q (o :: rest) a W:=by
 obtain ⟨i0,hi,hz0,hz1,hz2⟩:=info_parts itm_info
 have hl:=hr.num
 cases A with
 | none=>
  obtain rfl:c=0:=hr.cp.2 rfl;obtain rfl:m=0:=by have:=hr.cp.1; omega
  have:ys=[]:=List.eq_nil_of_length_eq_zero hl;subst this;refine wpList_append_own_none hgd s x t ho base 67 i0 2 ht hi v k _ hs hown hx ?_;refine h v W ?_ (hid hb);rw [List.append_nil]; exact hid hown
 | some ad=>
  refine wpList_append_own _ hgd s x t ho base 67 i0 _ 2 16 ht hi hz0 hz1 hz2 rfl (by decide) v k _ hs hown ad m c (itsV ys) hx hr.len ?_ ?_ ?_ ?_ hbase ?_
  · intro j u hu
    have hj:0 < m:=by
     have:=(List.getElem?_eq_some_iff.1 hu).1;rw [hr.len] at this; omega
    obtain ⟨ad',e,_,_,hc⟩:=hr.rd hj;obtain rfl:=Option.some.inj e;exact hc j u hu
  · intro u hu
    obtain ⟨t,_,ht⟩:=List.mem_flatMap.1 hu;simp only [itmV,List.mem_cons,List.not_mem_nil,or_false] at ht
    rcases ht with rfl | rfl <;> rfl
  · unfold maxLen; omega
  · omega
  · intro v' w' h1 h2 _
    refine h v' w' ?_ ?_
    · rw [qI8]; exact hid h1
    · exact hid (hb.grown h2 hbase fun j hj=>(hown.lt j hj).1)
theorem Btw.nil (w:World) (lo hi:Nat) (h:hi≤w.heap.size):Btw w lo hi none 0 0 []:=⟨Cp.nil,h,rfl,fun h=>absurd h (by omega),by omega,by simp⟩
theorem nil_no (W:World) (ad:Addr) (n c:Nat):(binOp .eql 22 (.slice (some ad) n c) (.slice none 0 0)).run Tryz.prog W=.ok (.bool false) W:=by kernel_rfl
theorem nil_yes (W:World):(binOp .eql 22 (.slice none 0 0) (.slice none 0 0)).run Tryz.prog W=.ok (.bool true) W:=by kernel_rfl
attribute [local go_sem] nil_no nil_yes in
set_option maxHeartbeats 1000000 in
theorem clone_c {lo hi:Nat} (A:Option Addr) (n c:Nat) (is:List Itm) (w:World) (h:Btw w lo hi A n c is) (hn:n≤1000) :
 Calls Tryz.prog 49 #[.slice A n c] w fun e w'=>∃ A' n' c',e=.returned (.slice A' n' c')∧Hid (Btw w' w.heap.size w'.heap.size A' n' c' is)∧Hid (Below w.heap.size w w'):=by
 have H:=hid h
 cases A with
 | none=>
  obtain rfl:c=0:=h.cp.2 rfl;obtain rfl:n=0:=by have:=h.cp.1; omega
  have hl:is=[]:=List.eq_nil_of_length_eq_zero h.num;subst hl;clear h
  go_enter Tryz.func49,Tryz.ntmps49
  go_wp2
  go_ret
  exact ⟨_,_,_,rfl,hid (Btw.nil _ _ _ (Nat.le_refl _)),hid (Below.refl _ _)⟩
 | some ad=>
  clear h;have HR:=hid (H.out.below (qA2 w (.cells #[] 67)) H.out.hi_);have HO:Hid ((w.alloc (.cells #[] 67)).ownsRow w.heap.size 67 2 (.slice (some ⟨w.heap.size,0,none⟩) 0 0) 0 (itsV [])):=hid ⟨rfl,.inr ⟨w.heap.size,0,_,rfl,Nat.le_refl _,heap_alloc_new w _,Nat.le_refl _,Nat.zero_le _,rfl,rfl⟩⟩
  go_enter Tryz.func49,Tryz.ntmps49
  go_wp2_with (at_builtin; go_must (refine qDC rfl (.tmp 5) (.tmp 6) _ rfl Tryz.underlying22 w.heap.size (.slice (some ⟨w.heap.size,0,none⟩) 0 0) 0 [] rfl HO.out (some ad) n c is rfl HR.out (by omega) (qA2 w _) (by simp) ?_))
  intro v' w' p1 p2;obtain ⟨A4,c4,rfl⟩:=qAJ p1.out
  go_wp2
  go_ret
  refine ⟨_,_,_,rfl,hid (Btw.of_own ⟨p1.out,by omega,H.out.ri⟩),p2⟩
def compH (es:List El):Pt × Int × Int:=
 if (halfZ true 0 (qA7 es)).2.1≠0 then ({},(halfZ true 0 (qA7 es)).2) else
 match qAY es with
 | []=>(qF6 (halfZ true 0 (qA7 es)).1).mix
 | e :: r=>if (halfZ false (e.1.2.2+1) r).2.1≠0 then ({},(halfZ false (e.1.2.2+1) r).2) else (qGH (halfZ true 0 (qA7 es)).1 (halfZ false (e.1.2.2+1) r).1).mix
theorem comp_hvs (l:List Nat):compZ l=if (hvsT (toks l)).1≠0 then ({},hvsT (toks l)) else compH (elsL (toks l).1):=by
 unfold compZ hvsT
 by_cases h:(toks l).2.1≠0
 · simp only [if_pos h]
 · simp only [if_neg h]
   cases hB:elsB (toks l).1 with
   | some a=>simp
   | none=>
    dsimp only;unfold qC9 semF compH
    cases hs:qAY (elsL (toks l).1) with
    | nil=>simp
    | cons e r=>
     dsimp only;have hx:qAY r=[]∨∃ f t,qAY r=f :: t:=by
      cases qAY r with
      | nil=>exact .inl rfl
      | cons f t=>exact .inr ⟨f,t,rfl⟩
     rcases hx with hr | ⟨f,t,hr⟩ <;> simp [hr]
theorem halfZ_len (f:Bool) (b:Int) (l:List El):(halfZ f b l).1.pre.length≤40∧(halfZ f b l).1.suf.length≤40:=by
 unfold halfZ
 have h1:=qF2 (tksE (hpre l))
 have h2:=qF2 (tksE (hsuf l))
 split
 · exact ⟨Nat.zero_le _,Nat.zero_le _⟩
 · split
   · exact ⟨Nat.zero_le _,Nat.zero_le _⟩
   · split
     · exact ⟨Nat.zero_le _,Nat.zero_le _⟩
     · split
       · exact ⟨Nat.zero_le _,Nat.zero_le _⟩
       · split
         · exact ⟨Nat.zero_le _,Nat.zero_le _⟩
         · exact ⟨h1,h2⟩
def PtM (w:World) (lo:Nat) (PV:Array Value) (p:Pt):Prop:=∃ A0 n0 c0 A1 n1 c1 A3 n3 c3 A4 n4 c4,
 PV=patV (.slice A0 n0 c0) (.slice A1 n1 c1) (.bool p.neg) (.slice A3 n3 c3) (.slice A4 n4 c4) p.num (.int .i64 p.at_) (.int .i32 p.pad) (.int .i64 ((p.width:Nat):Int)) ∧
 Btw w lo w.heap.size A0 n0 c0 p.pre∧Btw w lo w.heap.size A1 n1 c1 p.suf∧Btw w lo w.heap.size A3 n3 c3 p.npre∧Btw w lo w.heap.size A4 n4 c4 p.nsuf
theorem hv_forms {w:World} {v1 v2:Value} {F:Int} {es:List El} (h0:F≠0→v1=.agg hzV∧v2=.agg hzV) (h1:F=0→HvOk w v1 v2 es) :
 (∃ b l A1 n1 c1 A2 n2 c2 A3 n3 c3,v1=.agg #[.int .i64 b,.bool l,.slice A1 n1 c1,.slice A2 n2 c2,.slice A3 n3 c3])∧∃ b l A1 n1 c1 A2 n2 c2 A3 n3 c3,v2=.agg #[.int .i64 b,.bool l,.slice A1 n1 c1,.slice A2 n2 c2,.slice A3 n3 c3]:=by
 by_cases hF:F=0
 · obtain ⟨D,ha,hb⟩:=h1 hF
   obtain ⟨A1,n1,c1,A2,n2,c2,A3,n3,c3,e,-⟩:=ha.f;refine ⟨⟨_,_,_,_,_,_,_,_,_,_,_,e⟩,?_⟩
   revert hb
   cases qAY es with
   | nil=>intro hb; exact ⟨_,_,_,_,_,_,_,_,_,_,_,hb⟩
   | cons x r=>
    intro hb;obtain ⟨A1,n1,c1,A2,n2,c2,A3,n3,c3,e,-⟩:=HfM.f hb;exact ⟨_,_,_,_,_,_,_,_,_,_,_,e⟩
 · obtain ⟨rfl,rfl⟩:=h0 hF
   exact ⟨⟨_,_,_,_,_,_,_,_,_,_,_,rfl⟩,_,_,_,_,_,_,_,_,_,_,_,rfl⟩
structure KX (w W:World) (g:Nat):Prop where
 bb:Below g w W
 rx:BX W g patZ 24
 fx:FB W (g+1) (.int .i64 0) (.int .i64 0)
section
variable {w W W':World} {g:Nat}
theorem KX.below (h:KX w W g) (hb:Below W.heap.size W W'):KX w W' g:=
 ⟨h.bb.trans (hb.mono (Nat.le_of_lt h.rx.lt)),h.rx.below hb h.rx.lt,h.fx.below hb h.fx.lt⟩
theorem KX.drew (h:KX w W g):KX w W.drew g:=⟨h.bb.drew,h.rx,h.fx⟩
theorem KX.new (w:World):KX w ((w.alloc (.cells patZ 24)).alloc (.cells #[.int .i64 0,.int .i64 0] 27)) w.heap.size:=
 ⟨((Below.refl _ _).alloc (Nat.le_refl _) _).alloc (by simp) _,(BX.new _ _ _).alloc _,by
  have:=FB.new (w.alloc (.cells patZ 24)) (.int .i64 0) (.int .i64 0)
  simpa using this⟩
theorem KX.setF (h:KX w W g) {f:Nat} (hf:g+1 < f) (j:Nat) (v:Value):KX w (W.setCell ⟨f,j,none⟩ v) g:=
 ⟨h.bb.setCell (p:=⟨f,j,none⟩) (by show g≤f; omega) v,(heap_setCell_other W ⟨f,j,none⟩ g v (by show g≠f; omega)).trans h.rx,(heap_setCell_other W ⟨f,j,none⟩ (g+1) v (by show g+1≠f; omega)).trans h.fx⟩
theorem KX.rowF (h:KX w W g) {f:Nat} (hf:g+1 < f) (cs:Array Value):KX w (W.setRow f cs) g:=
 ⟨h.bb.setRow (by omega) cs,(setRow_other W f g cs (by omega)).trans h.rx,(setRow_other W f (g+1) cs (by omega)).trans h.fx⟩
theorem KX.at_ (h:KX w W g) (cs:Array Value):FB (W.setRow g cs) (g+1) (.int .i64 0) (.int .i64 0):=
 (setRow_other W g (g+1) cs (by omega)).trans h.fx
theorem KX.ret (h:KX w W g) (cs:Array Value) (e p:Value) :
 BX ((W.setRow g cs).setRow (g+1) #[e,p]) g cs 24∧FB ((W.setRow g cs).setRow (g+1) #[e,p]) (g+1) e p ∧
 Below g w ((W.setRow g cs).setRow (g+1) #[e,p]):=by
 have h1:BX (W.setRow g cs) g cs 24:=setRow_heap _ _ patZ _ _ _ h.rx
 exact ⟨(setRow_other _ (g+1) g _ (by omega)).trans h1,setRow_heap _ _ _ _ _ _ (h.at_ cs),(h.bb.setRow (Nat.le_refl _) cs).setRow (by omega) _⟩
end
theorem st2 (w6:World) (PV2:Array Value) (be bp:Int) :
 FB (((w6.alloc (.cells patZ 24)).alloc (.cells #[.int .i64 0,.int .i64 0] 27)).setRow w6.heap.size PV2) (w6.heap.size+1) (.int .i64 0) (.int .i64 0) ∧
 Below w6.heap.size w6 ((((w6.alloc (.cells patZ 24)).alloc (.cells #[.int .i64 0,.int .i64 0] 27)).setRow w6.heap.size PV2).setRow (w6.heap.size+1) #[.int .i64 be,.int .i64 bp]) ∧
 BX ((((w6.alloc (.cells patZ 24)).alloc (.cells #[.int .i64 0,.int .i64 0] 27)).setRow w6.heap.size PV2).setRow (w6.heap.size+1) #[.int .i64 be,.int .i64 bp]) w6.heap.size PV2 24 ∧
 FB ((((w6.alloc (.cells patZ 24)).alloc (.cells #[.int .i64 0,.int .i64 0] 27)).setRow w6.heap.size PV2).setRow (w6.heap.size+1) #[.int .i64 be,.int .i64 bp]) (w6.heap.size+1) (.int .i64 be) (.int .i64 bp) ∧
 w6.heap.size+1 < ((((w6.alloc (.cells patZ 24)).alloc (.cells #[.int .i64 0,.int .i64 0] 27)).setRow w6.heap.size PV2).setRow (w6.heap.size+1) #[.int .i64 be,.int .i64 bp]).heap.size:=by
 have h0:FB (((w6.alloc (.cells patZ 24)).alloc (.cells #[.int .i64 0,.int .i64 0] 27)).setRow w6.heap.size PV2) (w6.heap.size+1) (.int .i64 0) (.int .i64 0):=by
  refine (setRow_other _ _ _ _ (by omega)).trans ?_;have:=FB.new (w6.alloc (.cells patZ 24)) (.int .i64 0) (.int .i64 0)
  simpa [FB] using this
 have h1:BX (((w6.alloc (.cells patZ 24)).alloc (.cells #[.int .i64 0,.int .i64 0] 27)).setRow w6.heap.size PV2) w6.heap.size PV2 24:=setRow_heap _ _ patZ _ _ _ ((BX.new w6 patZ _).alloc _)
 have h2:FB ((((w6.alloc (.cells patZ 24)).alloc (.cells #[.int .i64 0,.int .i64 0] 27)).setRow w6.heap.size PV2).setRow (w6.heap.size+1) #[.int .i64 be,.int .i64 bp]) (w6.heap.size+1) (.int .i64 be) (.int .i64 bp):=setRow_heap _ _ _ _ _ _ h0
 exact ⟨h0,((((Below.refl _ _).alloc (Nat.le_refl _) _).alloc (by simp) _).setRow (Nat.le_refl _) _).setRow (by omega) _,(setRow_other _ _ _ _ (by omega)).trans h1,h2,h2.lt⟩
theorem qE4 (A0 A1 A3 A4:Option Addr) (n0 c0 n1 c1 n3 c3 n4 c4:Nat) (ng:Bool) (p:NF) (a r z:Int) :
 ((patV (.slice A0 n0 c0) (.slice A1 n1 c1) (.bool ng) (.slice A3 n3 c3) (.slice A4 n4 c4) p (.int .i64 a) (.int .i32 r) (.int .i64 z)).all (·.oneCell'))=true:=by
 simp [patV,Value.oneCell']
theorem pv_ok {PV:Array Value} {e:Int} {Q:Option Addr→Nat→Nat→Option Addr→Nat→Nat→Prop} {nm:NF} {a r z:Int} (h0:e≠0→PV=patZ)
 (h1:e=0→∃ A1 n1 c1 A2 n2 c2,PV=patV (.slice A1 n1 c1) (.slice A2 n2 c2) (.bool false) (.slice none 0 0) (.slice none 0 0) nm (.int .i64 a) (.int .i32 r) (.int .i64 z)∧Q A1 n1 c1 A2 n2 c2) :
 (Tryz.prog.info? 24).map (·.size)=some PV.size∧patZ.size=PV.size∧(PV.all (·.oneCell'))=true:=by
 by_cases he:e=0
 · obtain ⟨A1,n1,c1,A2,n2,c2,rfl,-⟩:=h1 he
   exact ⟨qA0 ..,rfl,qH2 _ _ _ _ _ _ _ _ _ _⟩
 · rw [h0 he]
   exact ⟨qA0 _ _ _ _ _ {} _ _ _,rfl,qA5 {}⟩
set_option maxHeartbeats 8000000 in
theorem compile_c (s:ByteArray) (w:World) (hs:s.size≤10000000000) (hM:Mw w):Calls Tryz.prog 19 #[.string s] w fun x w'=>∃ PV,x=.returned (.tuple #[.agg PV,.agg #[.int .i64 (compZ (bts s)).2.1,.int .i64 (compZ (bts s)).2.2]]) ∧
 Hid ((compZ (bts s)).2.1≠0→PV=patZ)∧Hid ((compZ (bts s)).2.1=0→PtM w' w.heap.size PV (compZ (bts s)).1)∧Hid (Below w.heap.size w w'):=by
 generalize hC:compZ (bts s)=C
 rw [comp_hvs] at hC
 have HHV:=hid (fun W=>halves_c s W hs)
 obtain ⟨-,hlen,-⟩:=qEG (qAO s)
 clear hs
 have hel:=elsL_len (toks (bts s)).1
 generalize elsL (toks (bts s)).1=es at *
 generalize hvsT (toks (bts s))=F at *
 have hel:es.length≤400:=by omega
 have hl1:(qA7 es).length≤1000:=by have:=(List.takeWhile_prefix (fun e=>!smi e) (l:=es)).length_le; show (es.takeWhile _).length≤_; omega
 obtain ⟨fe,fp⟩:=F
 dsimp only at *
 have HX:=hid (KX.new w)
 have HM:=hid hM
 clear hM hlen
 go_enter Tryz.func19,Tryz.ntmps19
 go_upto_region 1 with fail
 change Code.wp _ _ _ _ ((w.alloc (.cells patZ 24)).alloc (.cells #[.int .i64 0,.int .i64 0] 27))
 generalize (w.alloc (.cells patZ 24)).alloc (.cells #[.int .i64 0,.int .i64 0] 27)=W0 at *
 generalize hg:w.heap.size=g at *
 have HGe:=hid hg
 clear hg
 go_upto_region 2 with (first
  | (go_at_call 47; refine (HHV.out W0).mono ?_; rintro e w1 ⟨v1,v2,rfl,hv0,hv1,hb1⟩; obtain ⟨⟨b1,l1,A1,n1,c1,A2,n2,c2,A3,n3,c3,rfl⟩,b2,l2,C1,m1,d1,C2,m2,d2,C3,m3,d3,rfl⟩:=hv_forms hv0.out hv1.out)
  | fail)
 have HB1:Hid (Below w1.heap.size w1 (((w1.alloc (.cells #[.int .i64 b1,.bool l1,.slice A1 n1 c1,.slice A2 n2 c2,.slice A3 n3 c3] 77)).alloc (.cells #[.int .i64 b2,.bool l2,.slice C1 m1 d1,.slice C2 m2 d2,.slice C3 m3 d3] 77)).alloc (.cells #[.int .i64 fe,.int .i64 fp] 27))):=
  hid ((((Below.refl _ _).alloc (Nat.le_refl _) _).alloc (by simp) _).alloc (by simp; omega) _)
 have HX1:=hid ((HX.out.below hb1.out).below HB1.out)
 have hgh:g+1 < w1.heap.size:=(HX.out.below hb1.out).fx.lt
 have H1b:Hid (BX (((w1.alloc (.cells #[.int .i64 b1,.bool l1,.slice A1 n1 c1,.slice A2 n2 c2,.slice A3 n3 c3] 77)).alloc (.cells #[.int .i64 b2,.bool l2,.slice C1 m1 d1,.slice C2 m2 d2,.slice C3 m3 d3] 77)).alloc (.cells #[.int .i64 fe,.int .i64 fp] 27)) w1.heap.size #[.int .i64 b1,.bool l1,.slice A1 n1 c1,.slice A2 n2 c2,.slice A3 n3 c3] 77):=hid (((BX.new _ _ _).alloc _).alloc _)
 have H2b:Hid (BX (((w1.alloc (.cells #[.int .i64 b1,.bool l1,.slice A1 n1 c1,.slice A2 n2 c2,.slice A3 n3 c3] 77)).alloc (.cells #[.int .i64 b2,.bool l2,.slice C1 m1 d1,.slice C2 m2 d2,.slice C3 m3 d3] 77)).alloc (.cells #[.int .i64 fe,.int .i64 fp] 27)) (w1.heap.size+1) #[.int .i64 b2,.bool l2,.slice C1 m1 d1,.slice C2 m2 d2,.slice C3 m3 d3] 77):=hid (by
  have:=(BX.new (w1.alloc (.cells #[.int .i64 b1,.bool l1,.slice A1 n1 c1,.slice A2 n2 c2,.slice A3 n3 c3] 77)) #[.int .i64 b2,.bool l2,.slice C1 m1 d1,.slice C2 m2 d2,.slice C3 m3 d3] 77).alloc (.cells #[.int .i64 fe,.int .i64 fp] 27)
  simpa using this)
 have HFf:Hid (FB (((w1.alloc (.cells #[.int .i64 b1,.bool l1,.slice A1 n1 c1,.slice A2 n2 c2,.slice A3 n3 c3] 77)).alloc (.cells #[.int .i64 b2,.bool l2,.slice C1 m1 d1,.slice C2 m2 d2,.slice C3 m3 d3] 77)).alloc (.cells #[.int .i64 fe,.int .i64 fp] 27)) (w1.heap.size+2) (.int .i64 fe) (.int .i64 fp)):=hid (by
  have:=FB.new ((w1.alloc (.cells #[.int .i64 b1,.bool l1,.slice A1 n1 c1,.slice A2 n2 c2,.slice A3 n3 c3] 77)).alloc (.cells #[.int .i64 b2,.bool l2,.slice C1 m1 d1,.slice C2 m2 d2,.slice C3 m3 d3] 77)) (.int .i64 fe) (.int .i64 fp)
  simpa using this)
 generalize ((w1.alloc (.cells #[.int .i64 b1,.bool l1,.slice A1 n1 c1,.slice A2 n2 c2,.slice A3 n3 c3] 77)).alloc (.cells #[.int .i64 b2,.bool l2,.slice C1 m1 d1,.slice C2 m2 d2,.slice C3 m3 d3] 77)).alloc (.cells #[.int .i64 fe,.int .i64 fp] 27)=W1 at *
 generalize hh:w1.heap.size=h at *
 have HHh:=hid hh
 clear hh
 have y0:=HFf.out.c0
 have y1:=HFf.out.c1
 by_cases hfe:fe≠0
 · rw [if_pos hfe] at hC
   have gp:(fe != 0)=true:=by simpa using hfe
   have HFE:=hid hfe;have HHe:=hid hC.symm;clear hfe hC hb1 HX
   go_upto_region 3 with fail
   have HXd:=hid HX1.out.drew;have HR:=hid (HXd.out.ret patZ (.int .i64 fe) (.int .i64 fp));refine wp_region_held_drew (S:=(fun W9:World=>Hid (FB W9 (h+2) (.int .i64 fe) (.int .i64 fp)))) (by kernel_rfl) (hid (show FB W1.drew (h+2) _ _ from HFf.out)) (fun hHeld=>?_);refine' qt 0 hHeld ?_
   try simp only [pk]
   refine' qA8 1 (v:=_) rfl (by kernel_rfl) (by kernel_rfl) (by kernel_rfl) (fun _ _ _ h=>h) rfl ?y2 hHeld ?r2
   case y2=>
    intro w hSw
    try dsimp only at hSw
    have k0:=hSw.out.c0;have k1:=hSw.out.c1;go_simp
    try with_reducible rfl
   try simp only [pk]
   refine qp 2 fun K hK=>?_;refine wp_store_row 24 _ _ rfl g patZ rfl rfl 24 patZ HXd.out.rx (qA0 _ _ _ _ _ {} _ _ _) rfl (qA5 {}) ?_;refine hK.out _ _ (hid (qAD hHeld.out (by omega))) (fun hHeld=>?_);clear hK K
   try simp only [Act.put]
   refine qp 3 fun K hK=>?_;refine wp_store_row 27 _ _ rfl (g+1) #[.int .i64 fe,.int .i64 fp] rfl rfl 27 _ (HXd.out.at_ patZ) (qA3 _ _) rfl (qA6 _ _) ?_;refine hK.out _ _ (hid (qAD hHeld.out (by omega))) (fun hHeld=>?_);clear hK K
   try simp only [Act.put]
   refine wpAnyH_done (by kernel_rfl) ?_ _;clear hHeld
   go_wp2
   exact bodyPost_ret (v:=.tuple #[.agg patZ,.agg #[.int .i64 fe,.int .i64 fp]]) (qAC Tryz.results19 _ _ g _ _ (0,0) _ rfl HR.out.1 Tryz.underlying24 rfl (qA0 _ _ _ _ _ {} _ _ _) (g+1) _ _ (0,0) _ rfl HR.out.2.1 Tryz.underlying27 rfl (qA3 _ _)) rfl ⟨patZ,by rw [HHe.out],hid (fun _=>rfl),hid (fun h=>absurd h (by rw [HHe.out]; dsimp only; exact HFE.out)),hid (HGe.out ▸ HR.out.2.2)⟩
 · rw [if_neg hfe] at hC
   have hfe0:fe=0:=by simpa using hfe
   subst hfe0;obtain ⟨D,ha,hbb⟩:=hv1.out rfl;have HA:=hid (ha.below (HHh.out ▸ HB1.out));have HTA:Hid (Calls Tryz.prog 48 #[.agg #[.int .i64 b1,.bool l1,.slice A1 n1 c1,.slice A2 n2 c2,.slice A3 n3 c3]] W1 fun e w'=>∃ PV,e=.returned (.tuple #[.agg PV,.agg #[.int .i64 (halfZ true 0 (qA7 es)).2.1,.int .i64 (halfZ true 0 (qA7 es)).2.2]]) ∧
    Hid ((halfZ true 0 (qA7 es)).2.1≠0→PV=patZ) ∧
    Hid ((halfZ true 0 (qA7 es)).2.1=0→∃ A1 n1 c1 A2 n2 c2,PV=patV (.slice A1 n1 c1) (.slice A2 n2 c2) (.bool false) (.slice none 0 0) (.slice none 0 0) (halfZ true 0 (qA7 es)).1.num (.int .i64 (halfZ true 0 (qA7 es)).1.at_) (.int .i32 (halfZ true 0 (qA7 es)).1.pad)
     (.int .i64 (((halfZ true 0 (qA7 es)).1.wid:Nat):Int))∧(Btw w' W1.heap.size w'.heap.size A1 n1 c1 (halfZ true 0 (qA7 es)).1.pre∧Btw w' W1.heap.size w'.heap.size A2 n2 c2 (halfZ true 0 (qA7 es)).1.suf))∧Hid (Below W1.heap.size W1 w')):=
    hid (tell16_c (D:=D) _ 0 false (qA7 es) W1 HA.out hl1 (HM.out.below (HGe.out ▸ HX1.out.bb)))
   have HC0:Hid (C=(if (halfZ true 0 (qA7 es)).2.1≠0 then ({},(halfZ true 0 (qA7 es)).2) else
    match qAY es with
    | []=>(qF6 (halfZ true 0 (qA7 es)).1).mix
    | e :: r=>if (halfZ false (e.1.2.2+1) r).2.1≠0 then ({},(halfZ false (e.1.2.2+1) r).2) else (qGH (halfZ true 0 (qA7 es)).1 (halfZ false (e.1.2.2+1) r).1).mix)):=hid hC.symm
   have HXL:=hid (halfZ_len true 0 (qA7 es));generalize halfZ true 0 (qA7 es)=XA at *;obtain ⟨xa,ae,ap⟩:=XA;dsimp only at *;have x0:=H1b.out.c 0;have x1:=H1b.out.c 1;have x2:=H1b.out.c 2;have x3:=H1b.out.c 3;have x4:=H1b.out.c 4;clear hC hfe ha hv0 hv1 hb1 HX
   go_upto_region 5 with (first
    | (go_at_call 48; refine HTA.out.mono ?_; rintro e w2 ⟨PV1,rfl,hpz,hpo,hb2⟩; obtain ⟨hsz1,h201,hce1⟩:=pv_ok hpz.out hpo.out; have HFq:=hid (HFf.out.below hb2.out HFf.out.lt))
    | (refine wpList_store_row rfl 24 _ _ rfl w2.heap.size PV1 rfl rfl 24 patZ (BX.new w2 patZ _) hsz1 h201 hce1 ?_; have HFz:Hid (FB ((w2.alloc (.cells patZ 24)).setRow w2.heap.size PV1) (h+2) (.int .i64 0) (.int .i64 fp)):=hid (st_old HFq.out))
    | (refine wpList_store_row rfl 27 _ _ rfl (h+2) #[.int .i64 ae,.int .i64 ap] rfl rfl 27 _ HFz.out (qA3 _ _) rfl (qA6 _ _) ?_)
    | fail)
   change Code.wp _ _ _ _ (((w2.alloc (.cells patZ 24)).setRow w2.heap.size PV1).setRow (h+2) #[.int .i64 ae,.int .i64 ap])
   have hhs:h+2 < W1.heap.size:=HFf.out.lt;have hs12:W1.heap.size≤w2.heap.size:=hb2.out.size;have HB2:Hid (Below w2.heap.size w2 ((w2.alloc (.cells patZ 24)).setRow w2.heap.size PV1)):=hid (st_below (Below.refl _ _) (Nat.le_refl _));have HX5:=hid (((HX1.out.below hb2.out).below HB2.out).rowF (f:=h+2) (by omega) #[.int .i64 ae,.int .i64 ap]);have HO5:Hid (BX (((w2.alloc (.cells patZ 24)).setRow w2.heap.size PV1).setRow (h+2) #[.int .i64 ae,.int .i64 ap]) w2.heap.size PV1 24):=hid (qAD st_new (by omega));have H25:=hid (qAD (cs:=#[.int .i64 ae,.int .i64 ap]) (g:=h+2) ((H2b.out.below hb2.out H2b.out.lt).below HB2.out (Nat.lt_of_lt_of_le H2b.out.lt hs12)) (by omega));have HFf5:Hid (FB (((w2.alloc (.cells patZ 24)).setRow w2.heap.size PV1).setRow (h+2) #[.int .i64 ae,.int .i64 ap]) (h+2) (.int .i64 ae) (.int .i64 ap)):=hid (setRow_heap _ _ _ _ _ _ HFz.out);have hs5:w2.heap.size < (((w2.alloc (.cells patZ 24)).setRow w2.heap.size PV1).setRow (h+2) #[.int .i64 ae,.int .i64 ap]).heap.size:=HO5.out.lt;have HBt5:Hid (∀ {A:Option Addr} {n c:Nat} {is:List Itm},Btw w2 W1.heap.size w2.heap.size A n c is→Btw (((w2.alloc (.cells patZ 24)).setRow w2.heap.size PV1).setRow (h+2) #[.int .i64 ae,.int .i64 ap]) W1.heap.size w2.heap.size A n c is):=
    hid fun hB=>(hB.below HB2.out (Nat.le_refl _)).row (.inl hhs) _
   have HHB5:Hid (∀ {v:Value} {b:Int} {l:Bool} {l9:List El},HfM W1 D v b l l9→HfM (((w2.alloc (.cells patZ 24)).setRow w2.heap.size PV1).setRow (h+2) #[.int .i64 ae,.int .i64 ap]) D v b l l9):=
    hid fun hB=>((hB.below hb2.out).below HB2.out).other HFz.out (noE2 _ _) (by simp) (fun k hk=>setRow_other _ _ _ _ hk)
   clear HFf HFq HFz x0 x1 x2 x3 x4;generalize ((w2.alloc (.cells patZ 24)).setRow w2.heap.size PV1).setRow (h+2) #[.int .i64 ae,.int .i64 ap]=W5 at *;generalize hs1e:W1.heap.size=s1 at *;generalize hoe:w2.heap.size=o at *;have HFf:=HFf5;have y0:=HFf.out.c0;have y1:=HFf.out.c1
   by_cases hae:ae≠0
   · have gp:(ae != 0)=true:=by simpa using hae
     have HAE:=hid hae;have HHe:Hid (C=({},ae,ap)):=hid (by rw [HC0.out,if_pos hae]);clear hae
     go_upto_region 6 with fail
     have HXd:=hid HX5.out.drew;have HR:=hid (HXd.out.ret patZ (.int .i64 ae) (.int .i64 ap));refine wp_region_held_drew (S:=(fun W9:World=>Hid (FB W9 (h+2) (.int .i64 ae) (.int .i64 ap)))) (by kernel_rfl) (hid (show FB W5.drew (h+2) _ _ from HFf.out)) (fun hHeld=>?_);refine' qt 0 hHeld ?_
     try simp only [pk]
     refine' qA8 1 (v:=_) rfl (by kernel_rfl) (by kernel_rfl) (by kernel_rfl) (fun _ _ _ h=>h) rfl ?y4 hHeld ?r4
     case y4=>
      intro w hSw
      try dsimp only at hSw
      have k0:=hSw.out.c0;have k1:=hSw.out.c1;go_simp
      try with_reducible rfl
     try simp only [pk]
     refine qp 2 fun K hK=>?_;refine wp_store_row 24 _ _ rfl g patZ rfl rfl 24 patZ HXd.out.rx (qA0 _ _ _ _ _ {} _ _ _) rfl (qA5 {}) ?_;refine hK.out _ _ (hid (qAD hHeld.out (by omega))) (fun hHeld=>?_);clear hK K
     try simp only [Act.put]
     refine qp 3 fun K hK=>?_;refine wp_store_row 27 _ _ rfl (g+1) #[.int .i64 ae,.int .i64 ap] rfl rfl 27 _ (HXd.out.at_ patZ) (qA3 _ _) rfl (qA6 _ _) ?_;refine hK.out _ _ (hid (qAD hHeld.out (by omega))) (fun hHeld=>?_);clear hK K
     try simp only [Act.put]
     refine wpAnyH_done (by kernel_rfl) ?_ _;clear hHeld
     go_wp2
     exact bodyPost_ret (v:=.tuple #[.agg patZ,.agg #[.int .i64 ae,.int .i64 ap]]) (qAC Tryz.results19 _ _ g _ _ (0,0) _ rfl HR.out.1 Tryz.underlying24 rfl (qA0 _ _ _ _ _ {} _ _ _) (g+1) _ _ (0,0) _ rfl HR.out.2.1 Tryz.underlying27 rfl (qA3 _ _)) rfl ⟨patZ,by rw [HHe.out],hid (fun _=>rfl),hid (fun h=>absurd h (by rw [HHe.out]; dsimp only; exact HAE.out)),hid (HGe.out ▸ HR.out.2.2)⟩
   · have HC1:=HC0.out
     rw [if_neg hae] at HC1;have hae0:ae=0:=by simpa using hae
     subst hae0;obtain ⟨A5,n5,c5,A6,n6,c6,rfl,hB5,hB6⟩:=hpo.out rfl;have HB5:Hid (Btw W5 s1 o A5 n5 c5 xa.pre):=hid (HBt5.out hB5);have HB6:Hid (Btw W5 s1 o A6 n6 c6 xa.suf):=hid (HBt5.out hB6);clear hae hpz hpo hB5 hB6 HBt5 hsz1 h201 hce1
     cases hsn:qAY es with
     | nil=>
      rw [hsn] at hbb HC1;dsimp only at hbb HC1;obtain ⟨-,rfl⟩:b2=0∧l2=false:=by simp [hzV] at hbb; exact ⟨hbb.1,hbb.2.1⟩
      have hog:g+1 < o:=by omega
      have hn5:n5≤40:=by rw [← HB5.out.num]; exact HXL.out.1
      have hn6:n6≤40:=by rw [← HB6.out.num]; exact HXL.out.2
      have z0:W5.cell? ⟨o,0,none⟩=some (.slice A5 n5 c5):=HO5.out.c 0;have x1:W5.cell? ⟨h+1,1,none⟩=some (.bool false):=H25.out.c 1;have z0':(W5.alloc (.cells #[.int .i64 2,.int .i32 0] 67)).cell? ⟨o,0,none⟩=some (.slice A5 n5 c5):=(HO5.out.alloc _).c 0;have HL:Hid ((W5.alloc (.cells #[.int .i64 2,.int .i32 0] 67)).ownsRow W5.heap.size 67 2 (.slice (some ⟨W5.heap.size,0,none⟩) 1 1) 1 (itsV [(2,0)])):=hid (World.ownsRow_lit W5 _ 1 (Nat.le_refl _) (by unfold maxLen; omega) rfl);have HB5a:=hid (HB5.out.below (qA2 W5 (.cells #[.int .i64 2,.int .i32 0] 67)) HB5.out.hi_)
      go_wp2_with (at_builtin; go_must (refine qDC rfl (.tmp 51) (.tmp 53) _ rfl Tryz.underlying22 W5.heap.size (.slice (some ⟨W5.heap.size,0,none⟩) 1 1) 1 [(2,0)] rfl HL.out A5 n5 c5 xa.pre rfl HB5a.out (by omega) (qA2 _ _) (by simp) ?_))
      intro v' w6 p1 p2;obtain ⟨A7,c7,rfl⟩:=qAJ p1.out;have HO6:=hid (HO5.out.below p2.out hs5);have z3:w6.cell? ⟨o,3,none⟩=some (.slice none 0 0):=HO6.out.c 3;have r3:=HO6.out.fr 3;clear z0 z0' x1 HL HB5a
      go_upto_region 13 with fail
      have HO7:Hid (BX (w6.setCell ⟨o,3,none⟩ (.slice A7 (1+n5) c7)) o (patV (.slice A5 n5 c5) (.slice A6 n6 c6) (.bool false) (.slice A7 (1+n5) c7) (.slice none 0 0) xa.num (.int .i64 xa.at_) (.int .i32 xa.pad) (.int .i64 ((xa.wid:Nat):Int))) 24):=hid (heap_setCell_same w6 o 3 _ _ _ HO6.out);have HX7:=hid ((HX5.out.below p2.out).setF hog 3 (.slice A7 (1+n5) c7));have HB57:=hid ((HB5.out.below p2.out HB5.out.hi_).set (.inr (Nat.le_refl o)) 3 (.slice A7 (1+n5) c7));have HB67:=hid ((HB6.out.below p2.out HB6.out.hi_).set (.inr (Nat.le_refl o)) 3 (.slice A7 (1+n5) c7));have HB77:=hid ((Btw.of_own (is:=(2,0) :: xa.pre) ⟨p1.out,by omega,fun i hi=>by
       rcases List.mem_cons.1 hi with rfl | hi
       · exact ⟨by decide,by decide⟩
       · exact HB5.out.ri i hi⟩).set (.inl hs5) 3 (.slice A7 (1+n5) c7))
      have hs7:(w6.setCell ⟨o,3,none⟩ (.slice A7 (1+n5) c7)).heap.size=w6.heap.size:=by simp
      have hs56:W5.heap.size≤w6.heap.size:=p2.out.size;have hW5o:o < W5.heap.size:=hs5;clear z3 r3 HO6 p1 p2;generalize w6.setCell ⟨o,3,none⟩ (.slice A7 (1+n5) c7)=W7 at *;generalize w6.heap.size=s6 at *;generalize W5.heap.size=s5 at *;have z1:W7.cell? ⟨o,1,none⟩=some (.slice A6 n6 c6):=HO7.out.c 1;have ho7:o < W7.heap.size:=HO7.out.lt
      go_upto_region 14 with (first
       | (go_at_call 49; refine (clone_c A6 n6 c6 _ W7 HB67.out (by omega)).mono ?_; rintro e w8 ⟨A8,n8,c8,rfl,hB8,hb8⟩; have HO8:=hid (HO7.out.below hb8.out ho7); have z4:w8.cell? ⟨o,4,none⟩=some (.slice none 0 0):=HO8.out.c 4; have r4:=HO8.out.fr 4)
       | fail)
      have HO:Hid (BX (w8.setCell ⟨o,4,none⟩ (.slice A8 n8 c8)) o (patV (.slice A5 n5 c5) (.slice A6 n6 c6) (.bool false) (.slice A7 (1+n5) c7) (.slice A8 n8 c8) xa.num (.int .i64 xa.at_) (.int .i32 xa.pad) (.int .i64 ((xa.wid:Nat):Int))) 24):=hid (heap_setCell_same w8 o 4 _ _ _ HO8.out);have HXX:=hid ((HX7.out.below hb8.out).setF hog 4 (.slice A8 n8 c8));have K0:=hid ((HB57.out.below hb8.out HB57.out.hi_).set (.inr (Nat.le_refl o)) 4 (.slice A8 n8 c8));have K1:=hid ((HB67.out.below hb8.out HB67.out.hi_).set (.inr (Nat.le_refl o)) 4 (.slice A8 n8 c8));have K3:=hid ((HB77.out.below hb8.out (by rw [← hs7]; exact Nat.le_refl _)).set (.inl hW5o) 4 (.slice A8 n8 c8));have K4:=hid (hB8.out.set (.inl ho7) 4 (.slice A8 n8 c8));have hlo4:g+1 < W7.heap.size:=by omega
      have hlo3:g+1 < s5:=by omega
      have hlo1:g+1 < s1:=by omega
      clear z1 z4 r4 HO8 HO7 HX7 HB57 HB67 HB77 hB8 hb8 HB5 HB6 HX5 HO5 H25 HFf HFf5;generalize w8.setCell ⟨o,4,none⟩ (.slice A8 n8 c8)=W at *;generalize w8.heap.size=s8 at *;generalize W7.heap.size=s7 at *;have HCm:Hid (C=(qF6 xa).mix):=hid HC1;have HAF:Hid (Aff W (patV (.slice A5 n5 c5) (.slice A6 n6 c6) (.bool false) (.slice A7 (1+n5) c7) (.slice A8 n8 c8) xa.num (.int .i64 xa.at_) (.int .i32 xa.pad) (.int .i64 ((xa.wid:Nat):Int))) (xa.pre) (xa.suf) ((2,0) :: xa.pre) (xa.suf)):=hid ⟨qA0 ..,⟨_,_,_,rfl,K0.out.its,K0.out.cp.1⟩,⟨_,_,_,rfl,K1.out.its,K1.out.cp.1⟩,⟨_,_,_,rfl,K3.out.its,K3.out.cp.1⟩,⟨_,_,_,rfl,K4.out.its,K4.out.cp.1⟩⟩;have hsz:(Tryz.prog.info? 24).map (·.size)=some (patV (.slice A5 n5 c5) (.slice A6 n6 c6) (.bool false) (.slice A7 (1+n5) c7) (.slice A8 n8 c8) xa.num (.int .i64 xa.at_) (.int .i32 xa.pad) (.int .i64 ((xa.wid:Nat):Int))).size:=qA0 ..;have h20:patZ.size=(patV (.slice A5 n5 c5) (.slice A6 n6 c6) (.bool false) (.slice A7 (1+n5) c7) (.slice A8 n8 c8) xa.num (.int .i64 xa.at_) (.int .i32 xa.pad) (.int .i64 ((xa.wid:Nat):Int))).size:=rfl;have hce:((patV (.slice A5 n5 c5) (.slice A6 n6 c6) (.bool false) (.slice A7 (1+n5) c7) (.slice A8 n8 c8) xa.num (.int .i64 xa.at_) (.int .i32 xa.pad) (.int .i64 ((xa.wid:Nat):Int))).all (·.oneCell'))=true:=qE4 _ _ _ _ _ _ _ _ _ _ _ _ _ _ _ _ _;have hbo:=HO.out;generalize hPV:patV (.slice A5 n5 c5) (.slice A6 n6 c6) (.bool false) (.slice A7 (1+n5) c7) (.slice A8 n8 c8) xa.num (.int .i64 xa.at_) (.int .i32 xa.pad) (.int .i64 ((xa.wid:Nat):Int))=PV at HAF hsz h20 hce hbo;have HPV:=hid hPV;clear hPV HO;have HC4:=hid (fun (W9:World) (hb:Below W.heap.size W W9)=>qGK 4 _ _ _ _ _ W9 (HAF.out.below hb));have HC5:=hid (fun (W9:World) (hb:Below W.heap.size W W9)=>qGK 5 _ _ _ _ _ W9 (HAF.out.below hb));have HMX:Hid (C=if anyK 4 (xa.pre) (xa.suf) ((2,0) :: xa.pre) (xa.suf) && anyK 5 (xa.pre) (xa.suf) ((2,0) :: xa.pre) (xa.suf) then ({},6,0) else (qF6 xa,0,0)):=hid HCm.out
      generalize anyK 4 (xa.pre) (xa.suf) ((2,0) :: xa.pre) (xa.suf)=a4 at *;generalize anyK 5 (xa.pre) (xa.suf) ((2,0) :: xa.pre) (xa.suf)=a5 at *;clear HCm HAF;have hoW:o < W.heap.size:=hbo.lt;have HBO:=hid hbo
      cases a4
      · have HHe:Hid (C=(qF6 xa,0,0)):=hid (by rw [HMX.out]; rfl)
        go_wp2_with (first
         | (refine wpList_load_row rfl 24 _ rfl o rfl 24 PV (0,0) _ hbo Tryz.underlying24 rfl hsz ?_)
         | (refine qAN 24 (Operand.tmp 7) rfl o rfl 24 PV (0,0) _ hbo Tryz.underlying24 rfl hsz rfl rfl rfl rfl ?_)
         | (go_at_call 50; with_reducible refine (HC4.out _ (Below.refl _ _)).mono ?_; rintro e wa ⟨rfl,hba⟩; have HBx:=hid hba; clear hbo; have hbo:=HBO.out.below hba hoW; have HXa:=hid (HXX.out.below hba); have hrx:=HXa.out.rx; have hfx:=HXa.out.at_ PV; have hfz:=HXa.out.at_ patZ; have HR:=hid (HXa.out.ret PV (.int .i64 0) (.int .i64 0)); have HRz:=hid (HXa.out.ret patZ (.int .i64 6) (.int .i64 0)))
         | (go_at_call 50; with_reducible refine (HC5.out _ HBx.out).mono ?_; rintro e wb ⟨rfl,hbb2⟩; have HBy:=hid (HBx.out.trans (hbb2.mono HBx.out.size)); clear hbo hrx hfx hfz HR HRz HXa; have hbo:=HBO.out.below HBy.out hoW; have HXa:=hid (HXX.out.below HBy.out); have hrx:=HXa.out.rx; have hfx:=HXa.out.at_ PV; have hfz:=HXa.out.at_ patZ; have HR:=hid (HXa.out.ret PV (.int .i64 0) (.int .i64 0)); have HRz:=hid (HXa.out.ret patZ (.int .i64 6) (.int .i64 0)); clear HBx; have HBx:=HBy)
         | (refine wpList_store_row rfl 24 _ _ rfl g PV rfl rfl 24 patZ hrx hsz h20 hce ?_)
         | (refine wpList_store_row rfl 24 _ _ rfl g patZ rfl rfl 24 patZ hrx (qA0 _ _ _ _ _ {} _ _ _) rfl (qA5 {}) ?_)
         | (refine wpList_store_row rfl 27 _ _ rfl (g+1) #[.int .i64 0,.int .i64 0] rfl rfl 27 _ hfx (qA3 _ _) rfl (qA6 _ _) ?_)
         | (refine wpList_store_row rfl 27 _ _ rfl (g+1) #[.int .i64 6,.int .i64 0] rfl rfl 27 _ hfz (qA3 _ _) rfl (qA6 _ _) ?_)
         | fail)
        have hsW:((wa.setRow g PV).setRow (g+1) #[.int .i64 0,.int .i64 0]).heap.size=wa.heap.size:=by simp
        have hbt:∀ {A:Option Addr} {n c:Nat} {is:List Itm} {lo hi:Nat},g+1 < lo→Btw W lo hi A n c is→Btw ((wa.setRow g PV).setRow (g+1) #[.int .i64 0,.int .i64 0]) g ((wa.setRow g PV).setRow (g+1) #[.int .i64 0,.int .i64 0]).heap.size A n c is:=fun hlo hB=>
         (((hB.below HBx.out hB.hi_).row (.inl (by omega)) PV).row (.inl hlo) _).mono (by omega) (by rw [hsW]; exact (hB.below HBx.out hB.hi_).hi_) (Nat.le_refl _)
        refine bodyPost_ret (v:=.tuple #[.agg PV,.agg #[.int .i64 0,.int .i64 0]]) (qAC Tryz.results19 _ _ g _ _ (0,0) _ rfl HR.out.1 Tryz.underlying24 rfl hsz (g+1) _ _ (0,0) _ rfl HR.out.2.1 Tryz.underlying27 rfl (qA3 _ _)) rfl ⟨PV,by rw [HHe.out],hid (fun h=>absurd (by rw [HHe.out]) h),hid (fun _=>?_),hid (HGe.out ▸ HR.out.2.2)⟩;rw [HHe.out,HGe.out];exact ⟨_,_,_,_,_,_,_,_,_,_,_,_,HPV.out.symm,hbt hlo1 K0.out,hbt hlo1 K1.out,hbt hlo3 K3.out,hbt hlo4 K4.out⟩
      · cases a5
        · have HHe:Hid (C=(qF6 xa,0,0)):=hid (by rw [HMX.out]; rfl)
          go_wp2_with (first
           | (refine wpList_load_row rfl 24 _ rfl o rfl 24 PV (0,0) _ hbo Tryz.underlying24 rfl hsz ?_)
           | (refine qAN 24 (Operand.tmp 7) rfl o rfl 24 PV (0,0) _ hbo Tryz.underlying24 rfl hsz rfl rfl rfl rfl ?_)
           | (go_at_call 50; with_reducible refine (HC4.out _ (Below.refl _ _)).mono ?_; rintro e wa ⟨rfl,hba⟩; have HBx:=hid hba; clear hbo; have hbo:=HBO.out.below hba hoW; have HXa:=hid (HXX.out.below hba); have hrx:=HXa.out.rx; have hfx:=HXa.out.at_ PV; have hfz:=HXa.out.at_ patZ; have HR:=hid (HXa.out.ret PV (.int .i64 0) (.int .i64 0)); have HRz:=hid (HXa.out.ret patZ (.int .i64 6) (.int .i64 0)))
           | (go_at_call 50; with_reducible refine (HC5.out _ HBx.out).mono ?_; rintro e wb ⟨rfl,hbb2⟩; have HBy:=hid (HBx.out.trans (hbb2.mono HBx.out.size)); clear hbo hrx hfx hfz HR HRz HXa; have hbo:=HBO.out.below HBy.out hoW; have HXa:=hid (HXX.out.below HBy.out); have hrx:=HXa.out.rx; have hfx:=HXa.out.at_ PV; have hfz:=HXa.out.at_ patZ; have HR:=hid (HXa.out.ret PV (.int .i64 0) (.int .i64 0)); have HRz:=hid (HXa.out.ret patZ (.int .i64 6) (.int .i64 0)); clear HBx; have HBx:=HBy)
           | (refine wpList_store_row rfl 24 _ _ rfl g PV rfl rfl 24 patZ hrx hsz h20 hce ?_)
           | (refine wpList_store_row rfl 24 _ _ rfl g patZ rfl rfl 24 patZ hrx (qA0 _ _ _ _ _ {} _ _ _) rfl (qA5 {}) ?_)
           | (refine wpList_store_row rfl 27 _ _ rfl (g+1) #[.int .i64 0,.int .i64 0] rfl rfl 27 _ hfx (qA3 _ _) rfl (qA6 _ _) ?_)
           | (refine wpList_store_row rfl 27 _ _ rfl (g+1) #[.int .i64 6,.int .i64 0] rfl rfl 27 _ hfz (qA3 _ _) rfl (qA6 _ _) ?_)
           | fail)
          have hsW:((wb.setRow g PV).setRow (g+1) #[.int .i64 0,.int .i64 0]).heap.size=wb.heap.size:=by simp
          have hbt:∀ {A:Option Addr} {n c:Nat} {is:List Itm} {lo hi:Nat},g+1 < lo→Btw W lo hi A n c is→Btw ((wb.setRow g PV).setRow (g+1) #[.int .i64 0,.int .i64 0]) g ((wb.setRow g PV).setRow (g+1) #[.int .i64 0,.int .i64 0]).heap.size A n c is:=fun hlo hB=>
           (((hB.below HBx.out hB.hi_).row (.inl (by omega)) PV).row (.inl hlo) _).mono (by omega) (by rw [hsW]; exact (hB.below HBx.out hB.hi_).hi_) (Nat.le_refl _)
          refine bodyPost_ret (v:=.tuple #[.agg PV,.agg #[.int .i64 0,.int .i64 0]]) (qAC Tryz.results19 _ _ g _ _ (0,0) _ rfl HR.out.1 Tryz.underlying24 rfl hsz (g+1) _ _ (0,0) _ rfl HR.out.2.1 Tryz.underlying27 rfl (qA3 _ _)) rfl ⟨PV,by rw [HHe.out],hid (fun h=>absurd (by rw [HHe.out]) h),hid (fun _=>?_),hid (HGe.out ▸ HR.out.2.2)⟩;rw [HHe.out,HGe.out];exact ⟨_,_,_,_,_,_,_,_,_,_,_,_,HPV.out.symm,hbt hlo1 K0.out,hbt hlo1 K1.out,hbt hlo3 K3.out,hbt hlo4 K4.out⟩
        · have HHe:Hid (C=({},6,0)):=hid (by rw [HMX.out]; rfl)
          go_wp2_with (first
           | (refine wpList_load_row rfl 24 _ rfl o rfl 24 PV (0,0) _ hbo Tryz.underlying24 rfl hsz ?_)
           | (refine qAN 24 (Operand.tmp 7) rfl o rfl 24 PV (0,0) _ hbo Tryz.underlying24 rfl hsz rfl rfl rfl rfl ?_)
           | (go_at_call 50; with_reducible refine (HC4.out _ (Below.refl _ _)).mono ?_; rintro e wa ⟨rfl,hba⟩; have HBx:=hid hba; clear hbo; have hbo:=HBO.out.below hba hoW; have HXa:=hid (HXX.out.below hba); have hrx:=HXa.out.rx; have hfx:=HXa.out.at_ PV; have hfz:=HXa.out.at_ patZ; have HR:=hid (HXa.out.ret PV (.int .i64 0) (.int .i64 0)); have HRz:=hid (HXa.out.ret patZ (.int .i64 6) (.int .i64 0)))
           | (go_at_call 50; with_reducible refine (HC5.out _ HBx.out).mono ?_; rintro e wb ⟨rfl,hbb2⟩; have HBy:=hid (HBx.out.trans (hbb2.mono HBx.out.size)); clear hbo hrx hfx hfz HR HRz HXa; have hbo:=HBO.out.below HBy.out hoW; have HXa:=hid (HXX.out.below HBy.out); have hrx:=HXa.out.rx; have hfx:=HXa.out.at_ PV; have hfz:=HXa.out.at_ patZ; have HR:=hid (HXa.out.ret PV (.int .i64 0) (.int .i64 0)); have HRz:=hid (HXa.out.ret patZ (.int .i64 6) (.int .i64 0)); clear HBx; have HBx:=HBy)
           | (refine wpList_store_row rfl 24 _ _ rfl g PV rfl rfl 24 patZ hrx hsz h20 hce ?_)
           | (refine wpList_store_row rfl 24 _ _ rfl g patZ rfl rfl 24 patZ hrx (qA0 _ _ _ _ _ {} _ _ _) rfl (qA5 {}) ?_)
           | (refine wpList_store_row rfl 27 _ _ rfl (g+1) #[.int .i64 0,.int .i64 0] rfl rfl 27 _ hfx (qA3 _ _) rfl (qA6 _ _) ?_)
           | (refine wpList_store_row rfl 27 _ _ rfl (g+1) #[.int .i64 6,.int .i64 0] rfl rfl 27 _ hfz (qA3 _ _) rfl (qA6 _ _) ?_)
           | fail)
          clear HR;have HR:=HRz;exact bodyPost_ret (v:=.tuple #[.agg patZ,.agg #[.int .i64 6,.int .i64 0]]) (qAC Tryz.results19 _ _ g _ _ (0,0) _ rfl HR.out.1 Tryz.underlying24 rfl (qA0 _ _ _ _ _ {} _ _ _) (g+1) _ _ (0,0) _ rfl HR.out.2.1 Tryz.underlying27 rfl (qA3 _ _)) rfl ⟨patZ,by rw [HHe.out],hid (fun _=>rfl),hid (fun h=>absurd h (by rw [HHe.out]; dsimp only; exact (by decide))),hid (HGe.out ▸ HR.out.2.2)⟩
     | cons e r=>
      rw [hsn] at hbb HC1;dsimp only at hbb HC1;obtain ⟨hb2e,rfl⟩:b2=e.1.2.2+1∧l2=true:=by
       obtain ⟨_,_,_,_,_,_,_,_,_,eq,-⟩:=HfM.f hbb;simp at eq;exact ⟨eq.1,eq.2.1⟩
      have HA2:=hid (HHB5.out (hbb.below (HHh.out ▸ HB1.out)));have hl2:r.length≤1000:=by
       have h1:=(List.dropWhile_suffix (fun e=>!smi e) (l:=es)).length_le;have h2:(es.dropWhile fun e=>!smi e).length=r.length+1:=by
        show (qAY es).length=_
        rw [hsn]; rfl
       omega
      have HTB:Hid (Calls Tryz.prog 48 #[.agg #[.int .i64 b2,.bool true,.slice C1 m1 d1,.slice C2 m2 d2,.slice C3 m3 d3]] W5 fun e' w'=>∃ PV,e'=.returned (.tuple #[.agg PV,.agg #[.int .i64 (halfZ false (e.1.2.2+1) r).2.1,.int .i64 (halfZ false (e.1.2.2+1) r).2.2]]) ∧
       Hid ((halfZ false (e.1.2.2+1) r).2.1≠0→PV=patZ) ∧
       Hid ((halfZ false (e.1.2.2+1) r).2.1=0→∃ A1 n1 c1 A2 n2 c2,PV=patV (.slice A1 n1 c1) (.slice A2 n2 c2) (.bool false) (.slice none 0 0) (.slice none 0 0) (halfZ false (e.1.2.2+1) r).1.num (.int .i64 (halfZ false (e.1.2.2+1) r).1.at_) (.int .i32 (halfZ false (e.1.2.2+1) r).1.pad)
        (.int .i64 (((halfZ false (e.1.2.2+1) r).1.wid:Nat):Int))∧(Btw w' W5.heap.size w'.heap.size A1 n1 c1 (halfZ false (e.1.2.2+1) r).1.pre∧Btw w' W5.heap.size w'.heap.size A2 n2 c2 (halfZ false (e.1.2.2+1) r).1.suf))∧Hid (Below W5.heap.size W5 w')):=
       hid (tell16_c (D:=D) _ (e.1.2.2+1) true r W5 HA2.out hl2 (HM.out.below (HGe.out ▸ HX5.out.bb)))
      generalize halfZ false (e.1.2.2+1) r=XB at *;obtain ⟨xb,be,bp⟩:=XB;dsimp only at *;have HC2:=hid HC1;have hog:g+1 < o:=by omega
      have x0:W5.cell? ⟨h+1,0,none⟩=some (.int .i64 b2):=H25.out.c 0;have x1:W5.cell? ⟨h+1,1,none⟩=some (.bool true):=H25.out.c 1;have x2:W5.cell? ⟨h+1,2,none⟩=some (.slice C1 m1 d1):=H25.out.c 2;have x3:W5.cell? ⟨h+1,3,none⟩=some (.slice C2 m2 d2):=H25.out.c 3;have x4:W5.cell? ⟨h+1,4,none⟩=some (.slice C3 m3 d3):=H25.out.c 4;clear HC1 hbb HHB5 HTA HC0 HA HA2 hb2e hel hl1
      go_upto_region 9 with (first
       | (go_at_call 48; refine HTB.out.mono ?_; rintro e' w6 ⟨PV2,rfl,hpz,hpo,hb6⟩; obtain ⟨hsz1,h201,hce1⟩:=pv_ok hpz.out hpo.out; have HO6:=hid (HO5.out.below hb6.out hs5))
       | (refine wpList_store_row rfl 24 _ _ rfl w6.heap.size PV2 rfl rfl 24 patZ ((BX.new w6 patZ 24).alloc _) hsz1 h201 hce1 ?_; have hF2:=(st2 w6 PV2 0 0).1)
       | (refine wpList_store_row rfl 27 _ _ rfl (w6.heap.size+1) #[.int .i64 be,.int .i64 bp] rfl rfl 27 _ hF2 (qA3 _ _) rfl (qA6 _ _) ?_)
       | fail)
      change Code.wp _ _ _ _ ((((w6.alloc (.cells patZ 24)).alloc (.cells #[.int .i64 0,.int .i64 0] 27)).setRow w6.heap.size PV2).setRow (w6.heap.size+1) #[.int .i64 be,.int .i64 bp])
      obtain ⟨-,hbl9,hbx9,hfb9,hsz9⟩:=st2 w6 PV2 be bp;have hs56:W5.heap.size≤w6.heap.size:=hb6.out.size;have HX9:=hid ((HX5.out.below hb6.out).below hbl9);have HO9:=hid (HO6.out.below hbl9 HO6.out.lt);have HP2:=hid hbx9;have HB59:=hid ((HB5.out.below hb6.out HB5.out.hi_).below hbl9 (Nat.le_trans HB5.out.hi_ hs56));have HB69:=hid ((HB6.out.below hb6.out HB6.out.hi_).below hbl9 (Nat.le_trans HB6.out.hi_ hs56));have HBt9:Hid (∀ {A:Option Addr} {n c:Nat} {is:List Itm},Btw w6 W5.heap.size w6.heap.size A n c is→Btw ((((w6.alloc (.cells patZ 24)).alloc (.cells #[.int .i64 0,.int .i64 0] 27)).setRow w6.heap.size PV2).setRow (w6.heap.size+1) #[.int .i64 be,.int .i64 bp]) W5.heap.size w6.heap.size A n c is):=hid fun hB=>hB.below hbl9 (Nat.le_refl _)
      clear HFf HFf5 y0 y1 x0 x1 x2 x3 x4 HO6 hF2 hbl9 hbx9;have HFf:=hid hfb9;clear hfb9;generalize (((w6.alloc (.cells patZ 24)).alloc (.cells #[.int .i64 0,.int .i64 0] 27)).setRow w6.heap.size PV2).setRow (w6.heap.size+1) #[.int .i64 be,.int .i64 bp]=W9 at *;generalize w6.heap.size=o2 at *;generalize W5.heap.size=s5 at *;have y0:=HFf.out.c0;have y1:=HFf.out.c1
      by_cases hbe:be≠0
      · have gp:(be != 0)=true:=by simpa using hbe
        have HBE:=hid hbe;have HHe:Hid (C=({},be,bp)):=hid (by rw [HC2.out,if_pos hbe]);clear hbe
        go_upto_region 10 with fail
        have HXd:=hid HX9.out.drew;have HR:=hid (HXd.out.ret patZ (.int .i64 be) (.int .i64 bp));refine wp_region_held_drew (S:=(fun W9:World=>Hid (FB W9 (o2+1) (.int .i64 be) (.int .i64 bp)))) (by kernel_rfl) (hid (show FB W9.drew (o2+1) _ _ from HFf.out)) (fun hHeld=>?_);refine' qt 0 hHeld ?_
        try simp only [pk]
        refine' qA8 1 (v:=_) rfl (by kernel_rfl) (by kernel_rfl) (by kernel_rfl) (fun _ _ _ h=>h) rfl ?y6 hHeld ?r6
        case y6=>
         intro w hSw
         try dsimp only at hSw
         have k0:=hSw.out.c0;have k1:=hSw.out.c1;go_simp
         try with_reducible rfl
        try simp only [pk]
        refine qp 2 fun K hK=>?_;refine wp_store_row 24 _ _ rfl g patZ rfl rfl 24 patZ HXd.out.rx (qA0 _ _ _ _ _ {} _ _ _) rfl (qA5 {}) ?_;refine hK.out _ _ (hid (qAD hHeld.out (by omega))) (fun hHeld=>?_);clear hK K
        try simp only [Act.put]
        refine qp 3 fun K hK=>?_;refine wp_store_row 27 _ _ rfl (g+1) #[.int .i64 be,.int .i64 bp] rfl rfl 27 _ (HXd.out.at_ patZ) (qA3 _ _) rfl (qA6 _ _) ?_;refine hK.out _ _ (hid (qAD hHeld.out (by omega))) (fun hHeld=>?_);clear hK K
        try simp only [Act.put]
        refine wpAnyH_done (by kernel_rfl) ?_ _;clear hHeld
        go_wp2
        exact bodyPost_ret (v:=.tuple #[.agg patZ,.agg #[.int .i64 be,.int .i64 bp]]) (qAC Tryz.results19 _ _ g _ _ (0,0) _ rfl HR.out.1 Tryz.underlying24 rfl (qA0 _ _ _ _ _ {} _ _ _) (g+1) _ _ (0,0) _ rfl HR.out.2.1 Tryz.underlying27 rfl (qA3 _ _)) rfl ⟨patZ,by rw [HHe.out],hid (fun _=>rfl),hid (fun h=>absurd h (by rw [HHe.out]; dsimp only; exact HBE.out)),hid (HGe.out ▸ HR.out.2.2)⟩
      · have HC3:=HC2.out
        rw [if_neg hbe] at HC3;have hbe0:be=0:=by simpa using hbe
        subst hbe0;obtain ⟨A7,n7,c7,A8,n8,c8,rfl,hB7,hB8⟩:=hpo.out rfl;have HB79:=hid (HBt9.out hB7);have HB89:=hid (HBt9.out hB8);clear hbe hpz hpo hB7 hB8 HBt9 hsz1 h201 hce1;have z0:W9.cell? ⟨o2,0,none⟩=some (.slice A7 n7 c7):=HP2.out.c 0;have z1:W9.cell? ⟨o2,1,none⟩=some (.slice A8 n8 c8):=HP2.out.c 1;have z2:W9.cell? ⟨o,2,none⟩=some (.bool false):=HO9.out.c 2;have z3:W9.cell? ⟨o,3,none⟩=some (.slice none 0 0):=HO9.out.c 3;have z4:W9.cell? ⟨o,4,none⟩=some (.slice none 0 0):=HO9.out.c 4;have r2:=HO9.out.fr 2;have r3:=HO9.out.fr 3;have r4:=HO9.out.fr 4
        go_upto_region 11 with fail
        go_region
        go_upto_region 14 with fail
        have HO:Hid (BX (((W9.setCell ⟨o,2,none⟩ (.bool true)).setCell ⟨o,3,none⟩ (.slice A7 n7 c7)).setCell ⟨o,4,none⟩ (.slice A8 n8 c8)).drew o (patV (.slice A5 n5 c5) (.slice A6 n6 c6) (.bool true) (.slice A7 n7 c7) (.slice A8 n8 c8) xa.num (.int .i64 xa.at_) (.int .i32 xa.pad) (.int .i64 ((xa.wid:Nat):Int))) 24):=hid (show BX (((W9.setCell ⟨o,2,none⟩ (.bool true)).setCell ⟨o,3,none⟩ (.slice A7 n7 c7)).setCell ⟨o,4,none⟩ (.slice A8 n8 c8)) o _ 24 from heap_setCell_same _ o 4 _ _ _ (heap_setCell_same _ o 3 _ _ _ (heap_setCell_same W9 o 2 _ _ _ HO9.out)));have HXX:=hid ((((HX9.out.setF hog 2 (.bool true)).setF hog 3 (.slice A7 n7 c7)).setF hog 4 (.slice A8 n8 c8)).drew);have hdr:∀ {lo hi:Nat} {A:Option Addr} {n c:Nat} {is:List Itm},(o < lo∨hi≤o)→Btw W9 lo hi A n c is→Btw (((W9.setCell ⟨o,2,none⟩ (.bool true)).setCell ⟨o,3,none⟩ (.slice A7 n7 c7)).setCell ⟨o,4,none⟩ (.slice A8 n8 c8)).drew lo hi A n c is:=fun hlo hB=>
         (((hB.set hlo 2 (.bool true)).set hlo 3 (.slice A7 n7 c7)).set hlo 4 (.slice A8 n8 c8)).keep (Nat.le_refl _) (fun _ _ _=>rfl)
        have K0:=hid (hdr (.inr (Nat.le_refl o)) HB59.out);have K1:=hid (hdr (.inr (Nat.le_refl o)) HB69.out);have K3:=hid (hdr (.inl hs5) HB79.out);have K4:=hid (hdr (.inl hs5) HB89.out);have hlo4:g+1 < s5:=by omega
        have hlo3:g+1 < s5:=by omega
        have hlo1:g+1 < s1:=by omega
        clear hdr z0 z1 z2 z3 z4 r2 r3 r4 y0 y1 HO9 HX9 HB59 HB69 HB79 HB89 HB5 HB6 HX5 HO5 H25 HFf;generalize (((W9.setCell ⟨o,2,none⟩ (.bool true)).setCell ⟨o,3,none⟩ (.slice A7 n7 c7)).setCell ⟨o,4,none⟩ (.slice A8 n8 c8)).drew=W at *;have HCm:Hid (C=(qGH xa xb).mix):=hid HC3;have HAF:Hid (Aff W (patV (.slice A5 n5 c5) (.slice A6 n6 c6) (.bool true) (.slice A7 n7 c7) (.slice A8 n8 c8) xa.num (.int .i64 xa.at_) (.int .i32 xa.pad) (.int .i64 ((xa.wid:Nat):Int))) (xa.pre) (xa.suf) (xb.pre) (xb.suf)):=hid ⟨qA0 ..,⟨_,_,_,rfl,K0.out.its,K0.out.cp.1⟩,⟨_,_,_,rfl,K1.out.its,K1.out.cp.1⟩,⟨_,_,_,rfl,K3.out.its,K3.out.cp.1⟩,⟨_,_,_,rfl,K4.out.its,K4.out.cp.1⟩⟩;have hsz:(Tryz.prog.info? 24).map (·.size)=some (patV (.slice A5 n5 c5) (.slice A6 n6 c6) (.bool true) (.slice A7 n7 c7) (.slice A8 n8 c8) xa.num (.int .i64 xa.at_) (.int .i32 xa.pad) (.int .i64 ((xa.wid:Nat):Int))).size:=qA0 ..;have h20:patZ.size=(patV (.slice A5 n5 c5) (.slice A6 n6 c6) (.bool true) (.slice A7 n7 c7) (.slice A8 n8 c8) xa.num (.int .i64 xa.at_) (.int .i32 xa.pad) (.int .i64 ((xa.wid:Nat):Int))).size:=rfl;have hce:((patV (.slice A5 n5 c5) (.slice A6 n6 c6) (.bool true) (.slice A7 n7 c7) (.slice A8 n8 c8) xa.num (.int .i64 xa.at_) (.int .i32 xa.pad) (.int .i64 ((xa.wid:Nat):Int))).all (·.oneCell'))=true:=qE4 _ _ _ _ _ _ _ _ _ _ _ _ _ _ _ _ _;have hbo:=HO.out;generalize hPV:patV (.slice A5 n5 c5) (.slice A6 n6 c6) (.bool true) (.slice A7 n7 c7) (.slice A8 n8 c8) xa.num (.int .i64 xa.at_) (.int .i32 xa.pad) (.int .i64 ((xa.wid:Nat):Int))=PV at HAF hsz h20 hce hbo;have HPV:=hid hPV;clear hPV HO;have HC4:=hid (fun (W9:World) (hb:Below W.heap.size W W9)=>qGK 4 _ _ _ _ _ W9 (HAF.out.below hb));have HC5:=hid (fun (W9:World) (hb:Below W.heap.size W W9)=>qGK 5 _ _ _ _ _ W9 (HAF.out.below hb));have HMX:Hid (C=if anyK 4 (xa.pre) (xa.suf) (xb.pre) (xb.suf) && anyK 5 (xa.pre) (xa.suf) (xb.pre) (xb.suf) then ({},6,0) else (qGH xa xb,0,0)):=hid HCm.out
        generalize anyK 4 (xa.pre) (xa.suf) (xb.pre) (xb.suf)=a4 at *;generalize anyK 5 (xa.pre) (xa.suf) (xb.pre) (xb.suf)=a5 at *;clear HCm HAF;have hoW:o < W.heap.size:=hbo.lt;have HBO:=hid hbo
        cases a4
        · have HHe:Hid (C=(qGH xa xb,0,0)):=hid (by rw [HMX.out]; rfl)
          go_wp2_with (first
           | (refine wpList_load_row rfl 24 _ rfl o rfl 24 PV (0,0) _ hbo Tryz.underlying24 rfl hsz ?_)
           | (refine qAN 24 (Operand.tmp 7) rfl o rfl 24 PV (0,0) _ hbo Tryz.underlying24 rfl hsz rfl rfl rfl rfl ?_)
           | (go_at_call 50; with_reducible refine (HC4.out _ (Below.refl _ _)).mono ?_; rintro e wa ⟨rfl,hba⟩; have HBx:=hid hba; clear hbo; have hbo:=HBO.out.below hba hoW; have HXa:=hid (HXX.out.below hba); have hrx:=HXa.out.rx; have hfx:=HXa.out.at_ PV; have hfz:=HXa.out.at_ patZ; have HR:=hid (HXa.out.ret PV (.int .i64 0) (.int .i64 0)); have HRz:=hid (HXa.out.ret patZ (.int .i64 6) (.int .i64 0)))
           | (go_at_call 50; with_reducible refine (HC5.out _ HBx.out).mono ?_; rintro e wb ⟨rfl,hbb2⟩; have HBy:=hid (HBx.out.trans (hbb2.mono HBx.out.size)); clear hbo hrx hfx hfz HR HRz HXa; have hbo:=HBO.out.below HBy.out hoW; have HXa:=hid (HXX.out.below HBy.out); have hrx:=HXa.out.rx; have hfx:=HXa.out.at_ PV; have hfz:=HXa.out.at_ patZ; have HR:=hid (HXa.out.ret PV (.int .i64 0) (.int .i64 0)); have HRz:=hid (HXa.out.ret patZ (.int .i64 6) (.int .i64 0)); clear HBx; have HBx:=HBy)
           | (refine wpList_store_row rfl 24 _ _ rfl g PV rfl rfl 24 patZ hrx hsz h20 hce ?_)
           | (refine wpList_store_row rfl 24 _ _ rfl g patZ rfl rfl 24 patZ hrx (qA0 _ _ _ _ _ {} _ _ _) rfl (qA5 {}) ?_)
           | (refine wpList_store_row rfl 27 _ _ rfl (g+1) #[.int .i64 0,.int .i64 0] rfl rfl 27 _ hfx (qA3 _ _) rfl (qA6 _ _) ?_)
           | (refine wpList_store_row rfl 27 _ _ rfl (g+1) #[.int .i64 6,.int .i64 0] rfl rfl 27 _ hfz (qA3 _ _) rfl (qA6 _ _) ?_)
           | fail)
          have hsW:((wa.setRow g PV).setRow (g+1) #[.int .i64 0,.int .i64 0]).heap.size=wa.heap.size:=by simp
          have hbt:∀ {A:Option Addr} {n c:Nat} {is:List Itm} {lo hi:Nat},g+1 < lo→Btw W lo hi A n c is→Btw ((wa.setRow g PV).setRow (g+1) #[.int .i64 0,.int .i64 0]) g ((wa.setRow g PV).setRow (g+1) #[.int .i64 0,.int .i64 0]).heap.size A n c is:=fun hlo hB=>
           (((hB.below HBx.out hB.hi_).row (.inl (by omega)) PV).row (.inl hlo) _).mono (by omega) (by rw [hsW]; exact (hB.below HBx.out hB.hi_).hi_) (Nat.le_refl _)
          refine bodyPost_ret (v:=.tuple #[.agg PV,.agg #[.int .i64 0,.int .i64 0]]) (qAC Tryz.results19 _ _ g _ _ (0,0) _ rfl HR.out.1 Tryz.underlying24 rfl hsz (g+1) _ _ (0,0) _ rfl HR.out.2.1 Tryz.underlying27 rfl (qA3 _ _)) rfl ⟨PV,by rw [HHe.out],hid (fun h=>absurd (by rw [HHe.out]) h),hid (fun _=>?_),hid (HGe.out ▸ HR.out.2.2)⟩;rw [HHe.out,HGe.out];exact ⟨_,_,_,_,_,_,_,_,_,_,_,_,HPV.out.symm,hbt hlo1 K0.out,hbt hlo1 K1.out,hbt hlo3 K3.out,hbt hlo4 K4.out⟩
        · cases a5
          · have HHe:Hid (C=(qGH xa xb,0,0)):=hid (by rw [HMX.out]; rfl)
            go_wp2_with (first
             | (refine wpList_load_row rfl 24 _ rfl o rfl 24 PV (0,0) _ hbo Tryz.underlying24 rfl hsz ?_)
             | (refine qAN 24 (Operand.tmp 7) rfl o rfl 24 PV (0,0) _ hbo Tryz.underlying24 rfl hsz rfl rfl rfl rfl ?_)
             | (go_at_call 50; with_reducible refine (HC4.out _ (Below.refl _ _)).mono ?_; rintro e wa ⟨rfl,hba⟩; have HBx:=hid hba; clear hbo; have hbo:=HBO.out.below hba hoW; have HXa:=hid (HXX.out.below hba); have hrx:=HXa.out.rx; have hfx:=HXa.out.at_ PV; have hfz:=HXa.out.at_ patZ; have HR:=hid (HXa.out.ret PV (.int .i64 0) (.int .i64 0)); have HRz:=hid (HXa.out.ret patZ (.int .i64 6) (.int .i64 0)))
             | (go_at_call 50; with_reducible refine (HC5.out _ HBx.out).mono ?_; rintro e wb ⟨rfl,hbb2⟩; have HBy:=hid (HBx.out.trans (hbb2.mono HBx.out.size)); clear hbo hrx hfx hfz HR HRz HXa; have hbo:=HBO.out.below HBy.out hoW; have HXa:=hid (HXX.out.below HBy.out); have hrx:=HXa.out.rx; have hfx:=HXa.out.at_ PV; have hfz:=HXa.out.at_ patZ; have HR:=hid (HXa.out.ret PV (.int .i64 0) (.int .i64 0)); have HRz:=hid (HXa.out.ret patZ (.int .i64 6) (.int .i64 0)); clear HBx; have HBx:=HBy)
             | (refine wpList_store_row rfl 24 _ _ rfl g PV rfl rfl 24 patZ hrx hsz h20 hce ?_)
             | (refine wpList_store_row rfl 24 _ _ rfl g patZ rfl rfl 24 patZ hrx (qA0 _ _ _ _ _ {} _ _ _) rfl (qA5 {}) ?_)
             | (refine wpList_store_row rfl 27 _ _ rfl (g+1) #[.int .i64 0,.int .i64 0] rfl rfl 27 _ hfx (qA3 _ _) rfl (qA6 _ _) ?_)
             | (refine wpList_store_row rfl 27 _ _ rfl (g+1) #[.int .i64 6,.int .i64 0] rfl rfl 27 _ hfz (qA3 _ _) rfl (qA6 _ _) ?_)
             | fail)
            have hsW:((wb.setRow g PV).setRow (g+1) #[.int .i64 0,.int .i64 0]).heap.size=wb.heap.size:=by simp
            have hbt:∀ {A:Option Addr} {n c:Nat} {is:List Itm} {lo hi:Nat},g+1 < lo→Btw W lo hi A n c is→Btw ((wb.setRow g PV).setRow (g+1) #[.int .i64 0,.int .i64 0]) g ((wb.setRow g PV).setRow (g+1) #[.int .i64 0,.int .i64 0]).heap.size A n c is:=fun hlo hB=>
             (((hB.below HBx.out hB.hi_).row (.inl (by omega)) PV).row (.inl hlo) _).mono (by omega) (by rw [hsW]; exact (hB.below HBx.out hB.hi_).hi_) (Nat.le_refl _)
            refine bodyPost_ret (v:=.tuple #[.agg PV,.agg #[.int .i64 0,.int .i64 0]]) (qAC Tryz.results19 _ _ g _ _ (0,0) _ rfl HR.out.1 Tryz.underlying24 rfl hsz (g+1) _ _ (0,0) _ rfl HR.out.2.1 Tryz.underlying27 rfl (qA3 _ _)) rfl ⟨PV,by rw [HHe.out],hid (fun h=>absurd (by rw [HHe.out]) h),hid (fun _=>?_),hid (HGe.out ▸ HR.out.2.2)⟩;rw [HHe.out,HGe.out];exact ⟨_,_,_,_,_,_,_,_,_,_,_,_,HPV.out.symm,hbt hlo1 K0.out,hbt hlo1 K1.out,hbt hlo3 K3.out,hbt hlo4 K4.out⟩
          · have HHe:Hid (C=({},6,0)):=hid (by rw [HMX.out]; rfl)
            go_wp2_with (first
             | (refine wpList_load_row rfl 24 _ rfl o rfl 24 PV (0,0) _ hbo Tryz.underlying24 rfl hsz ?_)
             | (refine qAN 24 (Operand.tmp 7) rfl o rfl 24 PV (0,0) _ hbo Tryz.underlying24 rfl hsz rfl rfl rfl rfl ?_)
             | (go_at_call 50; with_reducible refine (HC4.out _ (Below.refl _ _)).mono ?_; rintro e wa ⟨rfl,hba⟩; have HBx:=hid hba; clear hbo; have hbo:=HBO.out.below hba hoW; have HXa:=hid (HXX.out.below hba); have hrx:=HXa.out.rx; have hfx:=HXa.out.at_ PV; have hfz:=HXa.out.at_ patZ; have HR:=hid (HXa.out.ret PV (.int .i64 0) (.int .i64 0)); have HRz:=hid (HXa.out.ret patZ (.int .i64 6) (.int .i64 0)))
             | (go_at_call 50; with_reducible refine (HC5.out _ HBx.out).mono ?_; rintro e wb ⟨rfl,hbb2⟩; have HBy:=hid (HBx.out.trans (hbb2.mono HBx.out.size)); clear hbo hrx hfx hfz HR HRz HXa; have hbo:=HBO.out.below HBy.out hoW; have HXa:=hid (HXX.out.below HBy.out); have hrx:=HXa.out.rx; have hfx:=HXa.out.at_ PV; have hfz:=HXa.out.at_ patZ; have HR:=hid (HXa.out.ret PV (.int .i64 0) (.int .i64 0)); have HRz:=hid (HXa.out.ret patZ (.int .i64 6) (.int .i64 0)); clear HBx; have HBx:=HBy)
             | (refine wpList_store_row rfl 24 _ _ rfl g PV rfl rfl 24 patZ hrx hsz h20 hce ?_)
             | (refine wpList_store_row rfl 24 _ _ rfl g patZ rfl rfl 24 patZ hrx (qA0 _ _ _ _ _ {} _ _ _) rfl (qA5 {}) ?_)
             | (refine wpList_store_row rfl 27 _ _ rfl (g+1) #[.int .i64 0,.int .i64 0] rfl rfl 27 _ hfx (qA3 _ _) rfl (qA6 _ _) ?_)
             | (refine wpList_store_row rfl 27 _ _ rfl (g+1) #[.int .i64 6,.int .i64 0] rfl rfl 27 _ hfz (qA3 _ _) rfl (qA6 _ _) ?_)
             | fail)
            clear HR;have HR:=HRz;exact bodyPost_ret (v:=.tuple #[.agg patZ,.agg #[.int .i64 6,.int .i64 0]]) (qAC Tryz.results19 _ _ g _ _ (0,0) _ rfl HR.out.1 Tryz.underlying24 rfl (qA0 _ _ _ _ _ {} _ _ _) (g+1) _ _ (0,0) _ rfl HR.out.2.1 Tryz.underlying27 rfl (qA3 _ _)) rfl ⟨patZ,by rw [HHe.out],hid (fun _=>rfl),hid (fun h=>absurd h (by rw [HHe.out]; dsimp only; exact (by decide))),hid (HGe.out ▸ HR.out.2.2)⟩
end Go.Proofs.YtnoeonaajefajaaGreatDoor
