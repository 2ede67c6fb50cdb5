import Derived.Lib.MinMax
import Derived.Deep.DeepCutAuto
import Derived.ChangeKeysEq
import Derived.Lib.SmallJoins
import Derived.SizedLaws
import Derived.ProofKit
import Derived.Shelf.Strings.BuilderF
import Derived.Lib.UnsafeStr
import Derived.Lib.RuneBytes
import Derived.Laws.Externs
import Derived.Deep.RegionHeldLaw
import Derived.Deep.AppendLies
import Derived.Lib.AppendZeros
import Derived.Test.YtohfadegildnaaaQNO
import Derived.Test.YtohfadegildnaaaRows
import Derived.Test.YtohfadegildnaaaQMB
import Derived.Test.YtohfadegildnaaaQSA
import Derived.Test.YtohfadegildnaaaQVE
set_option linter.all false
set_option maxRecDepth 100000
namespace Go.Proofs.Ytohfadegildnaaa
open Go.RowKit
section
variable {w0 W:World} {r a s:Nat} {m:ByteArray} {sc:Bool} {ex wh fr:ByteArray} {pt:Bool} {ba:ByteArray}
end
theorem qA2 {P:Program} {fn:Func} {p q:Tmp} {ty:TypeId} (h:fn.results=#[.cell p ty,.tmp q]) (tmps:Array Value) (w:World) (g:Nat) (t:TypeId) (cs:Array Value) (fr:Nat × Nat) (d:TypeDesc)
 (hp:tmps.getD p undef=.pointer (some ⟨g,0,none⟩)) (hg:w.heap[g]? = some (.cells cs t fr))
 (hu:P.underlying ty=some d) (hd:(match d with | .struct _ | .array _ _=>true | _=>false)=true) (hi:(P.info? ty).map (·.size)=some cs.size) :
 (results fn tmps).run P w=.ok (.tuple #[.agg cs,tmps.getD q undef]) w:=by
 have hp':tmps[p]?.getD undef=.pointer (some ⟨g,0,none⟩):=by simpa using hp
 simp [results,h,hp',asAddr,run_loadVar_row w g t ty cs fr d hg hu hd hi]
end Go.Proofs.Ytohfadegildnaaa
set_option maxRecDepth 100000
namespace Go.Proofs.Ytohfadegildnaaa
open Go.RowKit
theorem qE7 {P:Program} {o:Oper} {ev:Operand→Value} {w:World} (ty:TypeId) (x:Operand) (ho:o.op=.load ty x) (g:Nat) (hx:ev x=.pointer (some ⟨g,0,none⟩)) (t:TypeId) (cs:Array Value) (fr:Nat × Nat) (d:TypeDesc) (hg:w.heap[g]? = some (.cells cs t fr))
 (hu:P.underlying ty=some d) (hd:(match d with | .struct _ | .array _ _=>true | _=>false)=true) (hi:(P.info? ty).map (·.size)=some cs.size):(execOp ev o).run P w=.ok (.value (.agg cs)) w:=by
 unfold execOp
 simp only [ho,hx,Instr.loadAt,Instr.sureAddr,Sem.run_bind,Sem.run_pure,Result.andThen_ok,run_loadVar_row w g t ty cs fr d hg hu hd hi]
section
variable {w0 W:World} {g:Nat} {vs:Array Value} {x0 x1 x2 x3 x4 y0 y1 y2:Value} {p:NF}
end
end Go.Proofs.Ytohfadegildnaaa
set_option maxRecDepth 100000
namespace Go.Proofs.Ytohfadegildnaaa
open Go.RowKit
section
variable {w0 W:World} {g:Nat} {vs us:Array Value}
end
theorem qA1 {P:Program} {ops:Array Oper} {rest:List Oper} {o:Oper} {a:Act} {w:World} {Q:Exit→Act→World→Prop} (hw:Region.wanted o (yielded ops a.tmps)=true) (ty:TypeId) (x:Operand) (ho:o.op=.load ty x)
 (g:Nat) (hx:a.eval x=.pointer (some ⟨g,0,none⟩)) (t:TypeId) (cs:Array Value) (fr:Nat × Nat) (d:TypeDesc) (hg:w.heap[g]? = some (.cells cs t fr))
 (hu:P.underlying ty=some d) (hd:(match d with | .struct _ | .array _ _=>true | _=>false)=true) (hi:(P.info? ty).map (·.size)=some cs.size)
 (h:wpList P ops Q rest (a.put o.dst (.agg cs)) w):wpList P ops Q (o :: rest) a w:=
 wpList_step fun K hK=>by rw [if_pos hw]; exact wp_load_row ty x ho g hx t cs fr d hg hu hd hi (hK _ _ h)
section
variable {w w1:World} {B a:Nat} {us vs:Array Value} {T:TypeId}
end
end Go.Proofs.Ytohfadegildnaaa
set_option maxRecDepth 100000
namespace Go.Proofs.Ytohfadegildnaaa
open Go.RowKit
section
variable {x0 x1 x2 x3 x4 y0 y1 y2:Value} {a5 a6 a7 a8 a9 a10 a11 a12 a15:Int} {a13:ByteArray} {a14 a16:Bool} {w W:World} {g:Nat}
end
theorem qAM {P:Program} {ops:Array Oper} {rest:List Oper} {o:Oper} {a:Act} {w:World} {Q:Exit→Act→World→Prop} (ty:TypeId) (x:Operand) (ho:o.op=.load ty x)
 (g:Nat) (hx:a.eval x=.pointer (some ⟨g,0,none⟩)) (t:TypeId) (cs:Array Value) (fr:Nat × Nat) (d:TypeDesc) (hg:w.heap[g]? = some (.cells cs t fr))
 (hu:P.underlying ty=some d) (hd:(match d with | .struct _ | .array _ _=>true | _=>false)=true) (hi:(P.info? ty).map (·.size)=some cs.size)
 {j:Nat} {want:Bool} (hgd:o.guard=some (j,want)) {oj:Oper} {rj:List Oper} (hj:ops.toList.drop j=oj :: rj) {k:Nat} (hk:oj.dst=some k) {rv:List Value} (hv:a.tmps.toList.drop k=.bool want :: rv)
 (h:wpList P ops Q rest (a.put o.dst (.agg cs)) w):wpList P ops Q (o :: rest) a w:=by
 have e1:ops[j]? = some oj:=qCR hj
 have e2:a.tmps[k]? = some (.bool want):=by rw [← Array.getElem?_toList,← Nat.add_zero k,← List.getElem?_drop,hv]; rfl
 refine qA1 ?_ ty x ho g hx t cs fr d hg hu hd hi h
 unfold Region.wanted
 rw [hgd]
 simp [yielded,e1,hk,e2]
end Go.Proofs.Ytohfadegildnaaa

set_option linter.all false
set_option maxRecDepth 100000
namespace Go.Proofs.Ytohfadegildnaaa
open Go.RowKit Go.ChangeShapes Go.WideShapes Go.ChangeAt Go.Deep
theorem open_flat {H:Type} {enc:TypeId × Value→H} {P:Program} {w:World} {b0 base:Nat} {spare:Nat→Bool} {held:Bool} {r:Reach} {t:TypeId} {fs:Array Field} {v:Value} {d:DataW H} {p:List MemPlace} (hs:P.underlying t=some (.struct fs)) (hone:oneCellFields P fs=true)
 (hv:Value.okWide P w r b0 t v) (h:DataW.Trod enc P w base spare held t v d p) :
 ∃ (cs:Array Value) (xs:List (DataW H × List MemPlace)) (n:Nat),v=.agg cs∧cs.size=P.cellsOf t∧d=.agg (xs.map (·.1))∧xs.length=fs.size ∧
  ∀ (i:Nat) (f:Field) (c:Value),fs[i]? = some f→cs[i]? = some c→∃ y,xs[i]? = some y∧DataW.trod enc P w base spare held n f.type [c]=some y:=by
 obtain ⟨cs,rfl,hsz⟩:=okWide_struct hs hv
 obtain ⟨fuel,hf⟩:=h
 obtain ⟨xs,n,-,hx,_,hlen,hk⟩:=DataW.trod_struct hs hf
 simp only [Prod.mk.injEq] at hx
 refine ⟨cs,xs,n,rfl,hsz,hx.1,hlen,fun i f c hi hc=>?_⟩
 obtain ⟨ho,hc1⟩:=hone_of hone i f hi
 have hlt:i < xs.length:=by rw [hlen]; exact (Array.getElem?_eq_some_iff.1 hi).1
 have e:=hk i f hi
 obtain ⟨hci,hce⟩:=Array.getElem?_eq_some_iff.1 hc
 have e2:((Value.cells (.agg cs)).toList.drop f.offset).take (P.cellsOf f.type)=[c]:=by
  rw [ho,hc1]
  show (cs.toList.drop i).take 1=[c]
  have hl:i < cs.toList.length:=by simpa using hci
  have hv2:cs.toList[i]=c:=by simpa using hce
  rw [List.drop_eq_getElem_cons hl,hv2];rfl
 rw [e2] at e
 exact ⟨xs[i],List.getElem?_eq_getElem hlt,by rw [e,List.getElem?_eq_getElem hlt]⟩
end Go.Proofs.Ytohfadegildnaaa

set_option linter.all false
set_option maxRecDepth 100000
namespace Go.Proofs.Ytohfadegildnaaa
open Go.RowKit Go.ChangeShapes Go.WideShapes Go.ChangeAt Go.Deep
end Go.Proofs.Ytohfadegildnaaa

set_option linter.all false
set_option maxRecDepth 100000
namespace Go.Proofs.Ytohfadegildnaaa
open Go.RowKit
open Lib (hid)
structure Bld (w:World) (b:Nat) (p v:Value) (l:List Nat):Prop where
 bx:BX w b #[p,v] 85
 own:w.ownsRow (b+1) 5 1 v l.length (u8s l)
theorem bld_info:(Try.prog.info? 85).map (·.size)=some 2:=by kernel_rfl
theorem bld_lies:liesAt Try.prog Try.prog.depth 85 (2 / Try.prog.cellsOf 85) 0 85 1=true:=by kernel_rfl
set_option maxHeartbeats 2000000 in
theorem copyCheck0 (b:Nat) (v:Value) (l:List Nat) (w:World) (h:Bld w b (.pointer none) v l):Calls Try.prog 51 #[.pointer (some ⟨b,0,none⟩)] w fun e w'=>
 e=.returned (.tuple #[])∧w'=w.setCell ⟨b,0,none⟩ (.pointer (some ⟨b,0,none⟩)):=by
 obtain ⟨j,hj,hjs⟩:=Option.map_eq_some_iff.1 bld_info
 have d0:=h.bx.c 0
 have f0:=h.bx.fr 0
 have hsh:w.shape? b=some (85,2):=by simp [World.shape?,show w.heap[b]? = _ from h.bx]
 clear h
 go_enter Try.func51,Try.ntmps51
 go_wp2
 rw [Lib.run_to_unsafe w ⟨b,0,none⟩ Try.underlying83 Try.underlying104 hj (by rw [hjs]; decide) hsh (Nat.zero_lt_succ 1)]
 simp only [Result.andThen]
 rw [Oper.upon_value]
 go_wp2
 rw [run_callFunc_extern Try.func57 (by kernel_rfl) (by kernel_rfl) (by kernel_rfl) (e:=Extern.AbiNoEscape.same) (by kernel_rfl)]
 rw [Lib.run_noEscape]
 simp only [Result.andThen]
 rw [Oper.upon_value]
 go_wp2
 rw [Lib.run_from_unsafe w ⟨b,0,none⟩ Try.underlying104 Try.underlying83 hj hsh bld_lies]
 simp only [Result.andThen]
 rw [Oper.upon_value]
 go_wp2
 go_end0
 exact ⟨rfl,rfl⟩
set_option maxHeartbeats 2000000 in
theorem copyCheck1 (b:Nat) (v:Value) (l:List Nat) (w:World) (h:Bld w b (.pointer (some ⟨b,0,none⟩)) v l):Calls Try.prog 51 #[.pointer (some ⟨b,0,none⟩)] w fun e w'=>
 e=.returned (.tuple #[])∧w'=w:=by
 obtain ⟨j,hj,hjs⟩:=Option.map_eq_some_iff.1 bld_info
 have d0:=h.bx.c 0
 clear h
 go_enter Try.func51,Try.ntmps51
 go_wp2
 rw [Lib.run_neq_ptr_same w _ Try.underlying83 hj]
 go_wp2
 go_end0
 exact ⟨rfl,rfl⟩
theorem qFW (b:Nat) (p v:Value) (l:List Nat) (w:World) (hp:p=.pointer none∨p=.pointer (some ⟨b,0,none⟩)) (h:Bld w b p v l):Calls Try.prog 51 #[.pointer (some ⟨b,0,none⟩)] w fun e w'=>
 e=.returned (.tuple #[])∧Hid (Bld w' b (.pointer (some ⟨b,0,none⟩)) v l)∧Hid (Below b w w'):=by
 rcases hp with rfl | rfl
 · refine (copyCheck0 b v l w h).mono ?_
   rintro e w' ⟨rfl,rfl⟩;exact ⟨rfl,hid ⟨heap_setCell_same w b 0 _ _ _ h.bx,qB0 h.own (p:=⟨b,0,none⟩) (Nat.lt_succ_self b) _⟩,hid ((Below.refl b w).setCell (p:=⟨b,0,none⟩) (Nat.le_refl _) _)⟩
 · refine (copyCheck1 b v l w h).mono ?_
   rintro e w' ⟨rfl,rfl⟩;exact ⟨rfl,hid h,hid (Below.refl _ _)⟩
end Go.Proofs.Ytohfadegildnaaa

set_option linter.all false
set_option maxRecDepth 100000
namespace Go.Proofs.Ytohfadegildnaaa
open Go.RowKit
section
variable {w W W':World} {g D:Nat} {b:Int} {l:Bool} {x y z v:Value} {A:Option Addr} {n:Nat} {es:List El}
end
theorem tksE_len (es:List El):(tksE es).length≤es.length:=by
 unfold tksE
 rw [List.length_map]; exact List.length_filter_le _ _
theorem hpl (es:List El):es.length=(hpre es).length+((hnum es).length+(hsuf es).length):=by
 conv=>lhs; rw [qBD es]
 rw [List.length_append,List.length_append]
def ofK (k:Int) (i:Itm):Bool:=decide (i.1=k)
structure Sls (w:World) (g:Nat) (L:List (Option Addr × Nat × Nat × List Itm)):Prop where
 lt:g < w.heap.size
 at_:∀ j (h:j < L.length),w.cell? ⟨g,j,none⟩=some (.slice L[j].1 L[j].2.1 L[j].2.2.1)∧Its w L[j].1 L[j].2.1 L[j].2.2.2∧L[j].2.1≤L[j].2.2.1
structure Aff (w:World) (PV:Array Value) (i0 i1 i3 i4:List Itm):Prop where
 sz:(Try.prog.info? 26).map (·.size)=some PV.size
 s0:∃ A n c,PV[0]? = some (.slice A n c)∧Its w A n i0∧n≤c
 s1:∃ A n c,PV[1]? = some (.slice A n c)∧Its w A n i1∧n≤c
 s3:∃ A n c,PV[3]? = some (.slice A n c)∧Its w A n i3∧n≤c
 s4:∃ A n c,PV[4]? = some (.slice A n c)∧Its w A n i4∧n≤c
theorem Aff.below {w w':World} {PV:Array Value} {i0 i1 i3 i4:List Itm} (h:Aff w PV i0 i1 i3 i4) (hb:Below w.heap.size w w'):Aff w' PV i0 i1 i3 i4:=by
 obtain ⟨sz,⟨A0,n0,c0,e0,h0,l0⟩,⟨A1,n1,c1,e1,h1,l1⟩,⟨A3,n3,c3,e3,h3,l3⟩,⟨A4,n4,c4,e4,h4,l4⟩⟩:=h
 exact ⟨sz,⟨A0,n0,c0,e0,h0.below hb,l0⟩,⟨A1,n1,c1,e1,h1.below hb,l1⟩,⟨A3,n3,c3,e3,h3.below hb,l3⟩,⟨A4,n4,c4,e4,h4.below hb,l4⟩⟩
def anyK (k:Int) (i0 i1 i3 i4:List Itm):Bool:=i0.any (ofK k) || (i1.any (ofK k) || (i3.any (ofK k) || i4.any (ofK k)))
end Go.Proofs.Ytohfadegildnaaa
