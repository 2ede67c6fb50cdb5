import Derived.MapKept
import Derived.ChangeMaps4
import Derived.Test.YtohfadegildnaaaQVE
import Derived.Test.YtohfadegildnaaaQSB
set_option linter.all false
set_option maxRecDepth 100000
namespace Go.Proofs.Ytohfadegildnaaa
open Go.RowKit Go.ChangeMaps
open Lib (hid)
theorem bit5:∀ m,m < 32→∀ j,j < 5→∀ k,k < 5→(m ||| 1 <<< j).testBit k=(decide (k=j) || m.testBit k):=by decide +kernel
theorem qFV {d:TypeDesc} {k:Value} {e:MapEntry} {r:Bool} (hr:Instr.sameNow d k e.key=some r):∀ (l:List MapEntry) (i:Nat),Instr.findNow d k l i=some none →
 Instr.findNow d k (l++[e]) i=some (if r then some (i+l.length,e.val) else none)
 | [],i,_=>by cases r <;> simp [Instr.findNow,hr]
 | x :: xs,i,h=>by
  simp only [List.cons_append,Instr.findNow] at h ⊢
  cases hx:Instr.sameNow d k x.key with
  | none=>rw [hx] at h; cases h
  | some b=>
   rw [hx] at h
   cases b with
   | true=>cases h
   | false=>
    simp only at h ⊢;rw [qFV hr xs (i+1) h];simp only [List.length_cons];rw [show i+1+xs.length=i+(xs.length+1) by omega]
theorem qHV {d:TypeDesc} {k:Value} {e:MapEntry} {y:Nat × Value}:∀ (l:List MapEntry) (i:Nat),Instr.findNow d k l i=some (some y)→Instr.findNow d k (l++[e]) i=some (some y)
 | [],i,h=>by cases h
 | x :: xs,i,h=>by
  simp only [List.cons_append,Instr.findNow] at h ⊢
  cases hx:Instr.sameNow d k x.key with
  | none=>rw [hx] at h; cases h
  | some b=>
   rw [hx] at h
   cases b with
   | true=>exact h
   | false=>exact qHV xs (i+1) h
theorem sg_ins (w:World) (b:Nat) (es:Array MapEntry) (cl:Nat) (k:Int) (v:Value) (h:w.heap[b]? = some (.map es cl)) (hf:Instr.findNow (.int .i64) (.int .i64 k) es.toList 0=some none) :
 (Instr.mapUpdate 81 (.map (some b)) (.int .i64 k) v).run Try.prog w=.ok () (setBlock w b (.map (es.push ⟨.int .i64 k,v,cl⟩) (cl+1))):=by
 have hc:(Instr.checkKey false 10000 3 (.int .i64 k)).run Try.prog w=.ok () w:=MapKept.run_checkKey (k:=.int .i64 k) Try.underlying3 (by simp [MapKept.IsKey]) false 9999
 simp [Instr.mapUpdate,run_underlying Try.underlying81,MapKept.run_getObj_map h,hc,MapKept.run_findKey Try.underlying3 hf,MapKept.run_setObj_map _ h,Result.andThen,setBlock]
theorem sg_get (w:World) (b:Nat) (es:Array MapEntry) (cl:Nat) (k:Int) (v:Value) (j:Nat) (h:w.heap[b]? = some (.map es cl)) (hf:Instr.findNow (.int .i64) (.int .i64 k) es.toList 0=some (some (j,v))) :
 (Instr.lookup 81 (.map (some b)) (.int .i64 k) false).run Try.prog w=.ok v w:=by
 have hc:(Instr.checkKey es.isEmpty 10000 3 (.int .i64 k)).run Try.prog w=.ok () w:=MapKept.run_checkKey (k:=.int .i64 k) Try.underlying3 (by simp [MapKept.IsKey]) _ 9999
 simp [Instr.lookup,run_underlying Try.underlying81,MapKept.run_getObj_map h,hc,MapKept.run_findKey Try.underlying3 hf,Result.andThen]
def MI (b:Nat) (tx:Nat→ByteArray) (m:Nat) (w:World):Prop:=
 ∃ es cl,w.heap[b]? = some (.map es cl)∧∀ j,j < 5→(m.testBit j=true→∃ i,Instr.findNow (.int .i64) (.int .i64 ((j:Int)+2)) es.toList 0=some (some (i,.agg #[.string (tx j)])))∧(m.testBit j=false→Instr.findNow (.int .i64) (.int .i64 ((j:Int)+2)) es.toList 0=some none)
theorem MI.made (w:World) (tx:Nat→ByteArray):MI w.heap.size tx 0 (w.alloc (.map #[] 0)):=
 ⟨#[],0,(show (w.heap.push _)[w.heap.size]? = _ from Array.getElem?_push_size),fun j _=>⟨fun h=>(by rw [Nat.zero_testBit] at h; cases h),fun _=>rfl⟩⟩
theorem MI.get {b:Nat} {tx:Nat→ByteArray} {w:World} (h:MI b tx 31 w) {j:Nat} (hj:j < 5):(Instr.lookup 81 (.map (some b)) (.int .i64 ((j:Int)+2)) false).run Try.prog w=.ok (.agg #[.string (tx j)]) w:=by
 obtain ⟨es,cl,hb,hf⟩:=h
 obtain ⟨i,hi⟩:=(hf j hj).1 (by revert j; decide +kernel)
 exact sg_get w b es cl _ _ i hb hi
theorem MI.ins {b:Nat} {tx:Nat→ByteArray} {m:Nat} {w:World} (h:MI b tx m w) (hm:m < 32) {j:Nat} (hj:j < 5) (hb0:m.testBit j=false) :
 ∃ o,(Instr.mapUpdate 81 (.map (some b)) (.int .i64 ((j:Int)+2)) (.agg #[.string (tx j)])).run Try.prog w=.ok () (setBlock w b o)∧MI b tx (m ||| 1 <<< j) (setBlock w b o):=by
 obtain ⟨es,cl,hb,hf⟩:=h
 refine ⟨_,sg_ins w b es cl _ _ hb ((hf j hj).2 hb0),es.push ⟨.int .i64 ((j:Int)+2),.agg #[.string (tx j)],cl⟩,cl+1,(MapKept.heap_set (w:=w) hb).1,fun k hk=>?_⟩
 rw [bit5 m hm j hj k hk,Array.toList_push]
 by_cases hkj:k=j
 · subst hkj
   refine ⟨fun _=>⟨0+es.toList.length,?_⟩,fun h=>by simp at h⟩;rw [qFV (r:=true) (by simp [Instr.sameNow]) _ _ ((hf k hk).2 hb0)];rfl
 · rw [decide_eq_false hkj,Bool.false_or]
   refine ⟨fun h=>?_,fun h=>?_⟩
   · obtain ⟨i,hi⟩:=(hf k hk).1 h
     exact ⟨i,qHV _ _ hi⟩
   · rw [qFV (r:=false) (by simp [Instr.sameNow]; omega) _ _ ((hf k hk).2 h)]
     rfl
def tx5 (mi pl pc pm cu:ByteArray) (j:Nat):ByteArray:=[mi,pl,pc,pm,cu].getD j ⟨#[]⟩
def BXS (w:World) (b:Nat) (z:Int) (d g mi pl pc pm cu e:ByteArray):Prop:=BX w b #[.int .i32 z,.string d,.string g,.string mi,.string pl,.string pc,.string pm,.string cu,.string e] 23
theorem qDV {g:Nat} {w w':World} (h:Below g w w') {b:Nat} (hb:g≤b) (o:Obj):Below g w (setBlock w' b o):=
 h.trans ⟨rfl,rfl,rfl,by simp [setBlock],fun k hk=>by
  show (w'.heap.setIfInBounds b o)[k]? = _
  rw [Array.getElem?_setIfInBounds_ne (by omega)]⟩
theorem qED {b G:Nat} {tx:Nat→ByteArray} {m:Nat} {w0 w:World} {z:Int} {d g mi pl pc pm cu e:ByteArray} (h:MI b tx m w) (hx:BXS w G z d g mi pl pc pm cu e) (hbl:Below G w0 w) (hG:G < b) (hm:m < 32) {j:Nat} (hj:j < 5) (hb0:m.testBit j=false) :
 ∃ w',(Instr.mapUpdate 81 (.map (some b)) (.int .i64 ((j:Int)+2)) (.agg #[.string (tx j)])).run Try.prog w=.ok () w'∧Hid (MI b tx (m ||| 1 <<< j) w')∧Hid (BXS w' G z d g mi pl pc pm cu e)∧Hid (Below G w0 w'):=by
 obtain ⟨o,h1,h2⟩:=h.ins hm hj hb0
 exact ⟨_,h1,hid h2,hid (hx.below (qDV (Below.refl (G+1) w) hG o) (Nat.lt_succ_self _)),hid (qDV hbl (Nat.le_of_lt hG) o)⟩
theorem MI.lt {b:Nat} {tx:Nat→ByteArray} {m:Nat} {w:World} (h:MI b tx m w):b < w.heap.size:=by
 obtain ⟨_,_,hb,_⟩:=h
 exact (Array.getElem?_eq_some_iff.1 hb).1
theorem MI.below {b B:Nat} {tx:Nat→ByteArray} {m:Nat} {w w':World} (h:MI b tx m w) (hb:Below B w w') (hB:b < B):MI b tx m w':=by
 obtain ⟨es,cl,h1,h2⟩:=h
 exact ⟨es,cl,(hb.block b hB).trans h1,h2⟩
set_option maxHeartbeats 2000000 in
theorem symSigns_c (z:Int) (d g mi pl pc pm cu e:ByteArray) (w:World) :
 Calls Try.prog 38 #[.agg #[.int .i32 z,.string d,.string g,.string mi,.string pl,.string pc,.string pm,.string cu,.string e]] w fun e' w'=>
 ∃ b,e'=.returned (.map (some b))∧Hid (MI b (tx5 mi pl pc pm cu) 31 w'∧w.heap.size≤b∧b < w'.heap.size∧Below w.heap.size w w'):=by
 have hmm:=@run_makeMap Try.prog
 go_enter Try.func38,Try.ntmps38
 go_upto_region 1 with fail
 have HX:Hid (BXS (w.alloc (.cells #[.int .i32 z,.string d,.string g,.string mi,.string pl,.string pc,.string pm,.string cu,.string e] 23)) w.heap.size z d g mi pl pc pm cu e):=hid (BX.new _ _ _)
 have HB:Hid (Below w.heap.size w (w.alloc (.cells #[.int .i32 z,.string d,.string g,.string mi,.string pl,.string pc,.string pm,.string cu,.string e] 23))):=hid ((Below.refl _ _).alloc (Nat.le_refl _) _)
 generalize w.alloc (.cells #[.int .i32 z,.string d,.string g,.string mi,.string pl,.string pc,.string pm,.string cu,.string e] 23)=W0 at *
 have hgz:=HX.out.lt
 have HX1:Hid (BXS (W0.alloc (.map #[] 0)) w.heap.size z d g mi pl pc pm cu e):=hid (HX.out.below ((Below.refl (w.heap.size+1) W0).alloc (by omega) _) (Nat.lt_succ_self _))
 have HB1:=hid (HB.out.alloc (by omega) (.map #[] 0))
 have M1:=hid (MI.made W0 (tx5 mi pl pc pm cu))
 generalize hG:w.heap.size=G at *
 have HG:=hid hG
 clear hG
 obtain ⟨W1,r1,M2,HX2,HB2⟩:=qED M1.out HX1.out HB1.out hgz (by decide) (j:=0) (by decide) (by decide)
 obtain ⟨W2,r2,M3,HX3,HB3⟩:=qED M2.out HX2.out HB2.out hgz (by decide) (j:=1) (by decide) (by decide)
 obtain ⟨W3,r3,M4,HX4,HB4⟩:=qED M3.out HX3.out HB3.out hgz (by decide) (j:=2) (by decide) (by decide)
 obtain ⟨W4,r4,M5,HX5,HB5⟩:=qED M4.out HX4.out HB4.out hgz (by decide) (j:=3) (by decide) (by decide)
 obtain ⟨W5,r5,M6,HX6,HB6⟩:=qED M5.out HX5.out HB5.out hgz (by decide) (j:=4) (by decide) (by decide)
 replace r1:(Instr.mapUpdate 81 (.map (some W0.heap.size)) (.int .i64 2) (.agg #[.string mi])).run Try.prog (W0.alloc (.map #[] 0))=.ok () W1:=r1
 replace r2:(Instr.mapUpdate 81 (.map (some W0.heap.size)) (.int .i64 3) (.agg #[.string pl])).run Try.prog W1=.ok () W2:=r2
 replace r3:(Instr.mapUpdate 81 (.map (some W0.heap.size)) (.int .i64 4) (.agg #[.string pc])).run Try.prog W2=.ok () W3:=r3
 replace r4:(Instr.mapUpdate 81 (.map (some W0.heap.size)) (.int .i64 5) (.agg #[.string pm])).run Try.prog W3=.ok () W4:=r4
 replace r5:(Instr.mapUpdate 81 (.map (some W0.heap.size)) (.int .i64 6) (.agg #[.string cu])).run Try.prog W4=.ok () W5:=r5
 have c1:=HX1.out.c 3
 have c2:=HX2.out.c 4
 have c3:=HX3.out.c 5
 have c4:=HX4.out.c 6
 have c5:=HX5.out.c 7
 go_wp2
 go_ret
 exact ⟨_,rfl,hid (by rw [HG.out]; exact ⟨M6.out,Nat.le_of_lt hgz,M6.out.lt,HB6.out⟩)⟩
end Go.Proofs.Ytohfadegildnaaa
