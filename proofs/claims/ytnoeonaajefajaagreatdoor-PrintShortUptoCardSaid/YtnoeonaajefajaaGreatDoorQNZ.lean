import Derived.Test.YtnoeonaajefajaaGreatDoorQMF
set_option linter.all false
set_option maxRecDepth 100000
namespace Go.Proofs.YtnoeonaajefajaaGreatDoor
open Go.RowKit
open Lib (hid)
def fV (x0 x1 x2 x3 x4 y0 y1 y2:Value) (a5 a6 a7 a8 a9 a10 a11 a12 a15:Int) (a13:ByteArray) (a14 a16:Bool):Array Value:=#[x0,x1,x2,x3,x4,.int .i64 a5,.int .i64 a6,.int .i64 a7,.int .i64 a8,.int .i64 a9,.int .i64 a10,.int .i64 a11,.int .i64 a12,.string a13,.bool a14,.int .i64 a15,.bool a16,y0,y1,y2]
def fU (a5 a6 a7 a8 a9 a10 a11 a12 a15:Int) (a13:ByteArray) (a14 a16:Bool):Array Value:=#[.slice none 0 0,.slice none 0 0,.bool false,.slice none 0 0,.slice none 0 0,.int .i64 a5,.int .i64 a6,.int .i64 a7,.int .i64 a8,.int .i64 a9,.int .i64 a10,.int .i64 a11,.int .i64 a12,.string a13,.bool a14,.int .i64 a15,.bool a16,.int .i64 0,.int .i32 0,.int .i64 0]
theorem psize20:(Tryz.prog.info? 24).map (·.size)=some 20:=by kernel_rfl
theorem strClone_w (s:ByteArray) (w:World) (hs:s.size≤281474976710656):Calls Tryz.prog 225 #[.string s] w fun e w'=>e=.returned (.string s)∧Below w.heap.size w w':=Tryz.stringslite_Clone s w hs
theorem strClone2_w (s:ByteArray) (w:World) (hs:s.size≤281474976710656):Calls Tryz.prog 167 #[.string s] w fun e w'=>e=.returned (.string s)∧Below w.heap.size w w':=by
 have H3:=hid (fun W=>strClone_w s W hs)
 go_enter Tryz.func167,Tryz.ntmps167
 go_wp2_with (first
  | (go_at_call 225; refine (H3.out _).mono ?_; rintro e w1 ⟨rfl,hb⟩)
  | fail)
 go_ret
 exact ⟨rfl,hb⟩
section
variable {x0 x1 x2 x3 x4 y0 y1 y2:Value} {a5 a6 a7 a8 a9 a10 a11 a12 a15:Int} {a13:ByteArray} {a14 a16:Bool} {w W:World} {g:Nat}
theorem psizeU:(Tryz.prog.info? 24).map (·.size)=some (fU a5 a6 a7 a8 a9 a10 a11 a12 a15 a13 a14 a16).size:=psize20
theorem pcellsU:(fU a5 a6 a7 a8 a9 a10 a11 a12 a15 a13 a14 a16).all (·.oneCell')=true:=by simp [fU,Value.oneCell']
theorem FS {us:Array Value} (x:GX2 w W g (fV x0 x1 x2 x3 x4 y0 y1 y2 a5 a6 a7 a8 a9 a10 a11 a12 a15 a13 a14 a16) us) (hu:us.size=20):Hid (∃ us,us.size=20∧GX2 w W g (fV x0 x1 x2 x3 x4 y0 y1 y2 a5 a6 a7 a8 a9 a10 a11 a12 a15 a13 a14 a16) us)∧W.cell? ⟨g,5,none⟩=some (.int .i64 a5)∧W.cell? ⟨g,6,none⟩=some (.int .i64 a6)∧W.cell? ⟨g,7,none⟩=some (.int .i64 a7)∧W.cell? ⟨g,8,none⟩=some (.int .i64 a8)∧W.cell? ⟨g,9,none⟩=some (.int .i64 a9)∧W.cell? ⟨g,10,none⟩=some (.int .i64 a10)∧W.cell? ⟨g,11,none⟩=some (.int .i64 a11)∧W.cell? ⟨g,12,none⟩=some (.int .i64 a12)∧W.cell? ⟨g,13,none⟩=some (.string a13)∧W.cell? ⟨g,14,none⟩=some (.bool a14)∧W.cell? ⟨g,15,none⟩=some (.int .i64 a15)∧W.cell? ⟨g,16,none⟩=some (.bool a16):=
 ⟨hid ⟨us,hu,x⟩,x.bx.c 5,x.bx.c 6,x.bx.c 7,x.bx.c 8,x.bx.c 9,x.bx.c 10,x.bx.c 11,x.bx.c 12,x.bx.c 13,x.bx.c 14,x.bx.c 15,x.bx.c 16⟩
theorem FS_below {W':World} (x:∃ us:Array Value,us.size=20∧GX2 w W g (fV x0 x1 x2 x3 x4 y0 y1 y2 a5 a6 a7 a8 a9 a10 a11 a12 a15 a13 a14 a16) us) (hb:Below W.heap.size W W'):(fun W:World=>Hid (∃ us,us.size=20∧GX2 w W g (fV x0 x1 x2 x3 x4 y0 y1 y2 a5 a6 a7 a8 a9 a10 a11 a12 a15 a13 a14 a16) us)∧W.cell? ⟨g,5,none⟩=some (.int .i64 a5)∧W.cell? ⟨g,6,none⟩=some (.int .i64 a6)∧W.cell? ⟨g,7,none⟩=some (.int .i64 a7)∧W.cell? ⟨g,8,none⟩=some (.int .i64 a8)∧W.cell? ⟨g,9,none⟩=some (.int .i64 a9)∧W.cell? ⟨g,10,none⟩=some (.int .i64 a10)∧W.cell? ⟨g,11,none⟩=some (.int .i64 a11)∧W.cell? ⟨g,12,none⟩=some (.int .i64 a12)∧W.cell? ⟨g,13,none⟩=some (.string a13)∧W.cell? ⟨g,14,none⟩=some (.bool a14)∧W.cell? ⟨g,15,none⟩=some (.int .i64 a15)∧W.cell? ⟨g,16,none⟩=some (.bool a16)) W':=by
 obtain ⟨us,hu,x⟩:=x
 exact FS (x.below hb) hu
theorem GX2.setRow {vs us:Array Value} (x:GX2 w W g vs us) (hg:w.heap.size=g) (cs:Array Value):GX2 w (W.setRow (g+1) cs) g vs cs:=
 ⟨x.b.setRow (by omega) _,(setRow_other _ _ _ _ (by omega)).trans x.bx,setRow_heap _ _ us _ _ _ x.by_⟩
end
theorem qAN {P:Program} {ops:Array Oper} {rest:List Oper} {o:Oper} {a:Act} {w:World} {Q:Exit→Act→World→Prop} (ty:TypeId) (x:Operand) (ho:o.op=.load ty x)
 (g:Nat) (hx:a.eval x=.pointer (some ⟨g,0,none⟩)) (t:TypeId) (cs:Array Value) (fr:Nat × Nat) (d:TypeDesc) (hg:w.heap[g]? = some (.cells cs t fr))
 (hu:P.underlying ty=some d) (hd:(match d with | .struct _ | .array _ _=>true | _=>false)=true) (hi:(P.info? ty).map (·.size)=some cs.size)
 {j:Nat} {want:Bool} (hgd:o.guard=some (j,want)) {oj:Oper} {rj:List Oper} (hj:ops.toList.drop j=oj :: rj) {k:Nat} (hk:oj.dst=some k) {rv:List Value} (hv:a.tmps.toList.drop k=.bool want :: rv)
 (h:wpList P ops Q rest (a.put o.dst (.agg cs)) w):wpList P ops Q (o :: rest) a w:=by
 have e1:ops[j]? = some oj:=qCR hj
 have e2:a.tmps[k]? = some (.bool want):=by rw [← Array.getElem?_toList,← Nat.add_zero k,← List.getElem?_drop,hv]; rfl
 refine qAG ?_ ty x ho g hx t cs fr d hg hu hd hi h
 unfold Region.wanted
 rw [hgd]
 simp [yielded,e1,hk,e2]
set_option maxHeartbeats 4000000 in
theorem fields_c (x0 x1 x2 x3 x4 y0 y1 y2:Value) (a5 a6 a7 a8 a9 a10 a11 a12 a15:Int) (a13:ByteArray) (a14 a16:Bool) (w:World) (hs:a13.size≤281474976710656):Calls Tryz.prog 114 #[.agg (fV x0 x1 x2 x3 x4 y0 y1 y2 a5 a6 a7 a8 a9 a10 a11 a12 a15 a13 a14 a16)] w fun e w'=>e=.returned (.agg (fU a5 a6 a7 a8 a9 a10 a11 a12 a15 a13 a14 a16))∧Below w.heap.size w w':=by
 have HX:=hid (GX2.new w (fV x0 x1 x2 x3 x4 y0 y1 y2 a5 a6 a7 a8 a9 a10 a11 a12 a15 a13 a14 a16) patZ)
 have HC:=hid (fun W=>strClone2_w a13 W hs)
 go_enter Tryz.func114,Tryz.ntmps114
 go_upto_region 1 with fail
 change Code.wp _ _ _ _ ((w.alloc (.cells (fV x0 x1 x2 x3 x4 y0 y1 y2 a5 a6 a7 a8 a9 a10 a11 a12 a15 a13 a14 a16) 24)).alloc (.cells patZ 24))
 generalize (w.alloc (.cells (fV x0 x1 x2 x3 x4 y0 y1 y2 a5 a6 a7 a8 a9 a10 a11 a12 a15 a13 a14 a16) 24)).alloc (.cells patZ 24)=W at *
 generalize hg:w.heap.size=g at *
 have Hg:=hid hg
 clear hg
 refine wp_region_held_drew (S:=(fun W:World=>Hid (∃ us,us.size=20∧GX2 w W g (fV x0 x1 x2 x3 x4 y0 y1 y2 a5 a6 a7 a8 a9 a10 a11 a12 a15 a13 a14 a16) us)∧W.cell? ⟨g,5,none⟩=some (.int .i64 a5)∧W.cell? ⟨g,6,none⟩=some (.int .i64 a6)∧W.cell? ⟨g,7,none⟩=some (.int .i64 a7)∧W.cell? ⟨g,8,none⟩=some (.int .i64 a8)∧W.cell? ⟨g,9,none⟩=some (.int .i64 a9)∧W.cell? ⟨g,10,none⟩=some (.int .i64 a10)∧W.cell? ⟨g,11,none⟩=some (.int .i64 a11)∧W.cell? ⟨g,12,none⟩=some (.int .i64 a12)∧W.cell? ⟨g,13,none⟩=some (.string a13)∧W.cell? ⟨g,14,none⟩=some (.bool a14)∧W.cell? ⟨g,15,none⟩=some (.int .i64 a15)∧W.cell? ⟨g,16,none⟩=some (.bool a16))) (by kernel_rfl) (FS HX.out.drew rfl) (fun hHeld=>?_)
 clear HX
 refine' qt 0 hHeld ?_
 try simp only [pk]
 refine' qt 1 hHeld ?_
 try simp only [pk]
 refine' qt 2 hHeld ?_
 try simp only [pk]
 refine' qt 3 hHeld ?_
 try simp only [pk]
 refine' qt 4 hHeld ?_
 try simp only [pk]
 refine' qt 5 hHeld ?_
 try simp only [pk]
 refine' qt 6 hHeld ?_
 try simp only [pk]
 refine' qt 7 hHeld ?_
 try simp only [pk]
 refine' qt 8 hHeld ?_
 try simp only [pk]
 refine' qt 9 hHeld ?_
 try simp only [pk]
 refine' qt 10 hHeld ?_
 try simp only [pk]
 refine' qt 11 hHeld ?_
 try simp only [pk]
 refine' qt 12 hHeld ?_
 try simp only [pk]
 refine' qt 13 hHeld ?_
 try simp only [pk]
 refine' qt 14 hHeld ?_
 try simp only [pk]
 refine' qt 15 hHeld ?_
 try simp only [pk]
 refine' qt 16 hHeld ?_
 try simp only [pk]
 refine' qt 17 hHeld ?_
 try simp only [pk]
 refine' qt 19 hHeld ?_
 try simp only [pk]
 refine' qt 20 hHeld ?_
 try simp only [pk]
 refine' qt 21 hHeld ?_
 try simp only [pk]
 refine' qt 22 hHeld ?_
 try simp only [pk]
 refine' qt 23 hHeld ?_
 try simp only [pk]
 refine' qt 24 hHeld ?_
 try simp only [pk]
 refine qp 18 fun K hK=>?_
 go_simp
 refine (HC.out _).mono ?_
 rintro r w1 ⟨rfl,hb⟩
 have hS:=FS_below hHeld.1.out hb
 clear hb hHeld
 go_wp2_with fail
 refine hK.out _ _ hS (fun hHeld=>?_)
 clear hK K hS
 try simp only [pk]
 refine' qt 25 hHeld ?_
 try simp only [pk]
 refine qp 26 fun K hK=>?_
 obtain ⟨us,hus,hgx⟩:=hHeld.1.out
 refine wp_store_row 24 _ _ rfl (g+1) (fU a5 a6 a7 a8 a9 a10 a11 a12 a15 a13 a14 a16) rfl rfl 24 us hgx.by_ psizeU hus pcellsU ?_
 refine hK.out _ _ (FS (hgx.setRow Hg.out _) rfl) (fun _=>?_)
 clear hK K
 try simp only [Act.put]
 refine wpAnyH_done (by kernel_rfl) ?_ _
 go_wp2_with fail
 exact bodyPost_ret (v:=.agg (fU a5 a6 a7 a8 a9 a10 a11 a12 a15 a13 a14 a16)) (results_cell_row Tryz.results114 _ _ (g+1) 24 _ (0,0) _ rfl (setRow_heap _ _ _ _ _ _ hgx.by_) Tryz.underlying24 rfl psizeU) rfl ⟨rfl,hgx.b.setRow (by have:=Hg.out; omega) _⟩
end Go.Proofs.YtnoeonaajefajaaGreatDoor
