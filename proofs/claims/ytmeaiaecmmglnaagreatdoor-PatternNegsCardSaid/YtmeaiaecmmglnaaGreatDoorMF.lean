import Derived.ChangeKeysEq
import Derived.Test.YtmeaiaecmmglnaaGreatDoorNQ
set_option linter.all false
set_option maxRecDepth 100000
namespace Go.Proofs.YtmeaiaecmmglnaaGreatDoor
open Go.RowKit
structure GX2 (w0 W:World) (g:Nat) (vs us:Array Value):Prop where
 b:Below w0.heap.size w0 W
 bx:BX W g vs 25
 by_:BX W (g+1) us 25
section
variable {w0 W:World} {g:Nat} {vs us:Array Value}
theorem GX2.below {W':World} (x:GX2 w0 W g vs us) (hb:Below W.heap.size W W'):GX2 w0 W' g vs us:=⟨x.b.trans (hb.mono x.b.size),x.bx.below hb x.bx.lt,x.by_.below hb x.by_.lt⟩
theorem GX2.new (w0:World) (vs us:Array Value):GX2 w0 ((w0.alloc (.cells vs 25)).alloc (.cells us 25)) w0.heap.size vs us:=
 ⟨((Below.refl _ _).alloc (Nat.le_refl _) _).alloc (by simp) _,(BX.new w0 vs _).alloc _,by have:=BX.new (w0.alloc (.cells vs 25)) us 25; simpa using this⟩
end
theorem qAI {P:Program} {ops:Array Oper} {rest:List Oper} {o:Oper} {a:Act} {w:World} {Q:Exit→Act→World→Prop} (hw:Region.wanted o (yielded ops a.tmps)=true) (ty:TypeId) (x:Operand) (ho:o.op=.load ty x)
 (g:Nat) (hx:a.eval x=.pointer (some ⟨g,0,none⟩)) (t:TypeId) (cs:Array Value) (fr:Nat × Nat) (d:TypeDesc) (hg:w.heap[g]? = some (.cells cs t fr))
 (hu:P.underlying ty=some d) (hd:(match d with | .struct _ | .array _ _=>true | _=>false)=true) (hi:(P.info? ty).map (·.size)=some cs.size)
 (h:wpList P ops Q rest (a.put o.dst (.agg cs)) w):wpList P ops Q (o :: rest) a w:=
 wpList_step fun K hK=>by rw [if_pos hw]; exact wp_load_row ty x ho g hx t cs fr d hg hu hd hi (hK _ _ h)
set_option maxHeartbeats 2000000 in
theorem sameF_c (x0 x1 x2 x3 x4 y0 y1 y2 u0 u1 u2 u3 u4 v0 v1 v2:Value) (a5 a6 a7 a8 a9 a10 a11 a12 a15:Int) (a13:ByteArray) (a14 a16:Bool) (w:World) :
 Calls Tryz.prog 26 #[.agg #[x0,x1,x2,x3,x4,.int .i64 a5,.int .i64 a6,.int .i64 a7,.int .i64 a8,.int .i64 a9,.int .i64 a10,.int .i64 a11,.int .i64 a12,.string a13,.bool a14,.int .i64 a15,.bool a16,y0,y1,y2],
  .agg #[u0,u1,u2,u3,u4,.int .i64 a5,.int .i64 a6,.int .i64 a7,.int .i64 a8,.int .i64 a9,.int .i64 a10,.int .i64 a11,.int .i64 a12,.string a13,.bool a14,.int .i64 a15,.bool a16,v0,v1,v2]] w fun e w'=>e=.returned (.bool true)∧Below w.heap.size w w':=by
 go_enter Tryz.func26,Tryz.ntmps26
 go_wp2
 go_ret
 exact ⟨rfl,((Below.refl _ _).alloc (Nat.le_refl _) _).alloc (by simp) _⟩
section
variable {w w1:World} {B a:Nat} {us vs:Array Value} {T:TypeId}
theorem st_below (hb:Below B w w1) (hB:B≤w1.heap.size):Below B w ((w1.alloc (.cells patZ 25)).setRow w1.heap.size vs):=(hb.alloc hB _).setRow hB _
theorem st_new:BX ((w1.alloc (.cells patZ 25)).setRow w1.heap.size vs) w1.heap.size vs 25:=setRow_heap _ _ patZ _ _ _ (BX.new w1 patZ _)
theorem st_old (h:BX w1 a us T):BX ((w1.alloc (.cells patZ 25)).setRow w1.heap.size vs) a us T:=(setRow_other _ _ _ _ (Nat.ne_of_lt h.lt)).trans (h.alloc _)
end
end Go.Proofs.YtmeaiaecmmglnaaGreatDoor
set_option maxRecDepth 100000
namespace Go.Proofs.YtmeaiaecmmglnaaGreatDoor
open Go.RowKit
section
variable {x0 x1 x2 x3 x4 y0 y1 y2:Value} {a5 a6 a7 a8 a9 a10 a11 a12 a15:Int} {a13:ByteArray} {a14 a16:Bool} {w W:World} {g:Nat}
end
theorem qAK {P:Program} {ops:Array Oper} {rest:List Oper} {o:Oper} {a:Act} {w:World} {Q:Exit→Act→World→Prop} (ty:TypeId) (x:Operand) (ho:o.op=.load ty x)
 (g:Nat) (hx:a.eval x=.pointer (some ⟨g,0,none⟩)) (t:TypeId) (cs:Array Value) (fr:Nat × Nat) (d:TypeDesc) (hg:w.heap[g]? = some (.cells cs t fr))
 (hu:P.underlying ty=some d) (hd:(match d with | .struct _ | .array _ _=>true | _=>false)=true) (hi:(P.info? ty).map (·.size)=some cs.size)
 {j:Nat} {want:Bool} (hgd:o.guard=some (j,want)) {oj:Oper} {rj:List Oper} (hj:ops.toList.drop j=oj :: rj) {k:Nat} (hk:oj.dst=some k) {rv:List Value} (hv:a.tmps.toList.drop k=.bool want :: rv)
 (h:wpList P ops Q rest (a.put o.dst (.agg cs)) w):wpList P ops Q (o :: rest) a w:=by
 have e1:ops[j]? = some oj:=qCM hj
 have e2:a.tmps[k]? = some (.bool want):=by rw [← Array.getElem?_toList,← Nat.add_zero k,← List.getElem?_drop,hv]; rfl
 refine qAI ?_ ty x ho g hx t cs fr d hg hu hd hi h
 unfold Region.wanted
 rw [hgd]
 simp [yielded,e1,hk,e2]
end Go.Proofs.YtmeaiaecmmglnaaGreatDoor
