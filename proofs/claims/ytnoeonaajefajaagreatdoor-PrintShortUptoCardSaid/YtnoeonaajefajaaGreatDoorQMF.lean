import Derived.ChangeKeysEq
import Derived.Test.YtnoeonaajefajaaGreatDoorQME
set_option linter.all false
set_option maxRecDepth 100000
namespace Go.Proofs.YtnoeonaajefajaaGreatDoor
open Go.RowKit
open Lib (hid)
structure GX2 (w0 W:World) (g:Nat) (vs us:Array Value):Prop where
 b:Below w0.heap.size w0 W
 bx:BX W g vs 24
 by_:BX W (g+1) us 24
section
variable {w0 W:World} {g:Nat} {vs us:Array Value}
theorem GX2.below {W':World} (x:GX2 w0 W g vs us) (hb:Below W.heap.size W W'):GX2 w0 W' g vs us:=⟨x.b.trans (hb.mono x.b.size),x.bx.below hb x.bx.lt,x.by_.below hb x.by_.lt⟩
theorem GX2.drew (x:GX2 w0 W g vs us):GX2 w0 W.drew g vs us:=⟨x.b.drew,x.bx,x.by_⟩
theorem GX2.new (w0:World) (vs us:Array Value):GX2 w0 ((w0.alloc (.cells vs 24)).alloc (.cells us 24)) w0.heap.size vs us:=
 ⟨((Below.refl _ _).alloc (Nat.le_refl _) _).alloc (by simp) _,(BX.new w0 vs _).alloc _,by have:=BX.new (w0.alloc (.cells vs 24)) us 24; simpa using this⟩
end
theorem pr_bts {p:NF} (h:OkN p) (m:Nat):bts (stz (prN p m))=prN p m:=qAE fun c hc=>by
 rw [prN] at hc
 rcases List.mem_append.1 hc with hc | hc
 · rcases cmW_mem _ _ c hc with rfl | hc
   · decide
   · have:=qJ9 h m c hc
     simp only [okW,h35,a64,dg,Bool.or_eq_true,Bool.and_eq_true,decide_eq_true_iff,beq_iff_eq] at this;omega
 · rcases List.mem_append.1 hc with hc | hc
   · split at hc
     · rcases List.mem_cons.1 hc with rfl | hc
       · decide
       · have:=dg_ne (frc_ok h c hc)
         rcases frc_ok h c hc with e | e
         · have:=qJC.1 e; omega
         · simp only [h35,beq_iff_eq] at e; omega
     · cases hc
   · split at hc
     · rcases List.mem_cons.1 hc with rfl | hc
       · decide
       · unfold expN at hc
         rcases List.mem_append.1 hc with hc | hc
         · split at hc
           · have:c=43:=by simpa using hc
             omega
           · cases hc
         · have:=(List.mem_replicate.1 hc).2; omega
     · cases hc
theorem GX2.S {w0 W:World} {g:Nat} {x0 x1 x2 x3 x4 y0 y1 y2 u0 u1 u2 u3 u4 v0 v1 v2:Value} {p:NF} (x:GX2 w0 W g (patV x0 x1 x2 x3 x4 p y0 y1 y2) (patV u0 u1 u2 u3 u4 p v0 v1 v2)):Hid (GX2 w0 W g (patV x0 x1 x2 x3 x4 p y0 y1 y2) (patV u0 u1 u2 u3 u4 p v0 v1 v2))∧W.cell? ⟨g,13,none⟩=some (.string (stz p.inc))∧W.cell? ⟨g,14,none⟩=some (.bool p.sci)∧W.cell? ⟨g,16,none⟩=some (.bool p.plus)∧W.cell? ⟨g+1,13,none⟩=some (.string (stz p.inc))∧W.cell? ⟨g+1,14,none⟩=some (.bool p.sci)∧W.cell? ⟨g+1,16,none⟩=some (.bool p.plus):=
 ⟨hid x,x.bx.c 13,x.bx.c 14,x.bx.c 16,x.by_.c 13,x.by_.c 14,x.by_.c 16⟩
theorem eq_cnt (p:NF) (w:World):(Op.equalIn 10000 271 (.agg (cntV p)) (.agg (cntV p))).run Tryz.prog w=.ok true w:=by
 have hi:Tryz.prog.info? 3=some ((Tryz.prog.info? 3).getD default):=by kernel_rfl
 have hc:Tryz.prog.cellsOf 3=1:=by kernel_rfl
 have hk:Tryz.prog.plainKey 3=true:=by kernel_rfl
 have hp:∀ k v,(cntV p)[k]? = some v→(part 3 (cntV p) k).run Tryz.prog w=.ok v w:=fun k v h=>run_part_plain w hk h
 have he:∀ a:Int,(Op.equalIn 9999 3 (.int .i64 a) (.int .i64 a)).run Tryz.prog w=.ok true w:=fun a=>by
  rw [run_equalIn_int w 9998 3 .i64 .i64 a a Tryz.underlying3,beq_self_eq_true]
 rw [run_equalIn_array w 9999 _ _ Tryz.underlying271 hi,hc]
 simp only [List.range,List.range.loop,Op.eqItems,Sem.run_bind,Nat.mul_one,hp 0 (.int .i64 (p.minInt:Int)) rfl,hp 1 (.int .i64 (p.maxInt:Int)) rfl,hp 2 (.int .i64 (p.minFrac:Int)) rfl,hp 3 (.int .i64 (p.maxFrac:Int)) rfl,hp 4 (.int .i64 (p.minSig:Int)) rfl,hp 5 (.int .i64 (p.maxSig:Int)) rfl,hp 6 (.int .i64 (p.prim:Int)) rfl,hp 7 (.int .i64 (p.sec:Int)) rfl,hp 8 (.int .i64 (p.inc.length:Int)) rfl,hp 9 (.int .i64 (p.minExp:Int)) rfl,Result.andThen_ok,he,Bool.not_true,Bool.false_eq_true,if_false,Sem.run_pure]
theorem exec_eq_cnt (p:NF) {o:Oper} {ev:Operand→Value} (w:World) {x y:Operand} (ho:o.op=.binOp .eql 271 x y 271) (hx:ev x=.agg (cntV p)) (hy:ev y=.agg (cntV p)):(execOp ev o).run Tryz.prog w=.ok (.value (.bool true)) w:=by
 have he:=eq_cnt p w
 generalize cntV p=V at *
 unfold execOp
 simp only [ho,hx,hy]
 go_simp
set_option maxHeartbeats 4000000 in
theorem same15_c (x0 x1 x2 x3 x4 y0 y1 y2 u0 u1 u2 u3 u4 v0 v1 v2:Value) (p:NF) (w:World):Calls Tryz.prog 227 #[.agg (patV x0 x1 x2 x3 x4 p y0 y1 y2),.agg (patV u0 u1 u2 u3 u4 p v0 v1 v2)] w fun e w'=>e=.returned (.bool true)∧Below w.heap.size w w':=by
 have HX:=hid (GX2.new w (patV x0 x1 x2 x3 x4 p y0 y1 y2) (patV u0 u1 u2 u3 u4 p v0 v1 v2))
 have HC1:=hid (fun W=>qKP x0 x1 x2 x3 x4 y0 y1 y2 p W)
 have HC2:=hid (fun W=>qKP u0 u1 u2 u3 u4 v0 v1 v2 p W)
 go_enter Tryz.func227,Tryz.ntmps227
 go_upto_region 1 with fail
 generalize (w.alloc (.cells (patV x0 x1 x2 x3 x4 p y0 y1 y2) 24)).alloc (.cells (patV u0 u1 u2 u3 u4 p v0 v1 v2) 24)=W at *
 generalize hg:w.heap.size=g at *
 have Hg:=hid hg
 clear hg
 refine wp_region_held_drew (S:=(fun W:World=>Hid (GX2 w W g (patV x0 x1 x2 x3 x4 p y0 y1 y2) (patV u0 u1 u2 u3 u4 p v0 v1 v2))∧W.cell? ⟨g,13,none⟩=some (.string (stz p.inc))∧W.cell? ⟨g,14,none⟩=some (.bool p.sci)∧W.cell? ⟨g,16,none⟩=some (.bool p.plus)∧W.cell? ⟨g+1,13,none⟩=some (.string (stz p.inc))∧W.cell? ⟨g+1,14,none⟩=some (.bool p.sci)∧W.cell? ⟨g+1,16,none⟩=some (.bool p.plus))) (by kernel_rfl) (GX2.S HX.out.drew) (fun hHeld=>?_)
 clear HX
 refine' qA8 0 (v:=_) rfl (by kernel_rfl) (by kernel_rfl) (by kernel_rfl) (fun _ _ _ h=>h) rfl ?y1 hHeld ?r1
 case y1=>
  intro w hSw
  try dsimp only at hSw
  refine qBD 24 (Operand.tmp 2) ?_ g ?_ 24 _ (0,0) _ hSw.1.out.bx Tryz.underlying24 rfl (qA0 ..)
  · rfl
  · rfl
 try simp only [pk]
 refine' qA8 2 (v:=_) rfl (by kernel_rfl) (by kernel_rfl) (by kernel_rfl) (fun _ _ _ h=>h) rfl ?y2 hHeld ?r2
 case y2=>
  intro w hSw
  try dsimp only at hSw
  refine qBD 24 (Operand.tmp 3) ?_ (g+1) ?_ 24 _ (0,0) _ hSw.1.out.by_ Tryz.underlying24 rfl (qA0 ..)
  · rfl
  · rfl
 try simp only [pk]
 refine qp 1 fun K hK=>?_
 go_simp
 refine (HC1.out _).mono ?_
 rintro r wx1 ⟨rfl,hbx⟩
 have hHX:=hHeld.1.out.below hbx
 clear hHeld hbx
 go_wp2_with fail
 refine hK.out _ _ (GX2.S hHX) (fun hHeld=>?_)
 clear hK K hHX
 try simp only [pk]
 refine qp 3 fun K hK=>?_
 go_simp
 refine (HC2.out _).mono ?_
 rintro r wx2 ⟨rfl,hbx⟩
 have hHX:=hHeld.1.out.below hbx
 clear hHeld hbx
 go_wp2_with fail
 refine hK.out _ _ (GX2.S hHX) (fun hHeld=>?_)
 clear hK K hHX
 try simp only [pk]
 refine' qA8 4 (v:=_) rfl (by kernel_rfl) (by kernel_rfl) (by kernel_rfl) (fun _ _ _ h=>h) rfl ?y3 hHeld ?r3
 case y3=>
  intro w hSw
  try dsimp only at hSw
  refine exec_eq_cnt p w (x:=Operand.tmp 6) (y:=Operand.tmp 8) ?_ ?_ ?_
  · rfl
  · rfl
  · rfl
 try simp only [pk]
 refine' qA8 5 (v:=_) rfl (by kernel_rfl) (by kernel_rfl) (by kernel_rfl) (fun _ _ _ h=>h) rfl ?y4 hHeld ?r4
 case y4=>
  intro w hSw
  try dsimp only at hSw
  go_simp
  try rw [if_pos (by omega)]
  try with_reducible rfl
 try simp only [pk]
 refine' qA8 6 (v:=_) rfl (by kernel_rfl) (by kernel_rfl) (by kernel_rfl) (fun _ _ _ h=>h) rfl ?y5 hHeld ?r5
 case y5=>
  intro w hSw
  try dsimp only at hSw
  go_simp
  try rw [if_pos (by omega)]
  try with_reducible rfl
 try simp only [pk]
 refine' qA8 7 (v:=_) rfl (by kernel_rfl) (by kernel_rfl) (by kernel_rfl) (fun _ _ _ h=>h) rfl ?y6 hHeld ?r6
 case y6=>
  intro w hSw
  try dsimp only at hSw
  go_simp
  try rw [if_pos (by omega)]
  try with_reducible rfl
 try simp only [pk]
 refine' qA8 8 (v:=_) rfl (by kernel_rfl) (by kernel_rfl) (by kernel_rfl) (fun _ _ _ h=>h) rfl ?y7 hHeld ?r7
 case y7=>
  intro w hSw
  try dsimp only at hSw
  go_simp
  try rw [if_pos (by omega)]
  try with_reducible rfl
 try simp only [pk]
 refine' qA8 9 (v:=_) rfl (by kernel_rfl) (by kernel_rfl) (by kernel_rfl) (fun _ _ _ h=>h) rfl ?y8 hHeld ?r8
 case y8=>
  intro w hSw
  try dsimp only at hSw
  go_simp
  try rw [if_pos (by omega)]
  try with_reducible rfl
 try simp only [pk]
 refine' qA8 10 (v:=_) rfl (by kernel_rfl) (by kernel_rfl) (by kernel_rfl) (fun _ _ _ h=>h) rfl ?y9 hHeld ?r9
 case y9=>
  intro w hSw
  try dsimp only at hSw
  go_simp
  try rw [if_pos (by omega)]
  try with_reducible rfl
 try simp only [pk]
 refine' qA8 11 (v:=_) rfl (by kernel_rfl) (by kernel_rfl) (by kernel_rfl) (fun _ _ _ h=>h) rfl ?y10 hHeld ?r10
 case y10=>
  intro w hSw
  try dsimp only at hSw
  go_simp
  try rw [if_pos (by omega)]
  try with_reducible rfl
 try simp only [pk]
 refine' qA8 12 (v:=_) rfl (by kernel_rfl) (by kernel_rfl) (by kernel_rfl) (fun _ _ _ h=>h) rfl ?y11 hHeld ?r11
 case y11=>
  intro w hSw
  try dsimp only at hSw
  go_simp
  try rw [if_pos (by omega)]
  try with_reducible rfl
 try simp only [pk]
 refine' qA8 13 (v:=_) rfl (by kernel_rfl) (by kernel_rfl) (by kernel_rfl) (fun _ _ _ h=>h) rfl ?y12 hHeld ?r12
 case y12=>
  intro w hSw
  try dsimp only at hSw
  go_simp
  try rw [if_pos (by omega)]
  try with_reducible rfl
 try simp only [pk]
 refine' qA8 14 (v:=_) rfl (by kernel_rfl) (by kernel_rfl) (by kernel_rfl) (fun _ _ _ h=>h) rfl ?y13 hHeld ?r13
 case y13=>
  intro w hSw
  try dsimp only at hSw
  go_simp
  try rw [if_pos (by omega)]
  try with_reducible rfl
 try simp only [pk]
 refine' qA8 15 (v:=_) rfl (by kernel_rfl) (by kernel_rfl) (by kernel_rfl) (fun _ _ _ h=>h) rfl ?y14 hHeld ?r14
 case y14=>
  intro w hSw
  try dsimp only at hSw
  go_simp
  try rw [if_pos (by omega)]
  try with_reducible rfl
 try simp only [pk]
 refine' qA8 16 (v:=_) rfl (by kernel_rfl) (by kernel_rfl) (by kernel_rfl) (fun _ _ _ h=>h) rfl ?y15 hHeld ?r15
 case y15=>
  intro w hSw
  try dsimp only at hSw
  go_simp
  try rw [if_pos (by omega)]
  try with_reducible rfl
 try simp only [pk]
 refine' qA8 17 (v:=_) rfl (by kernel_rfl) (by kernel_rfl) (by kernel_rfl) (fun _ _ _ h=>h) rfl ?y16 hHeld ?r16
 case y16=>
  intro w hSw
  try dsimp only at hSw
  go_simp
  try rw [if_pos (by omega)]
  try with_reducible rfl
 try simp only [pk]
 refine' qA8 18 (v:=_) rfl (by kernel_rfl) (by kernel_rfl) (by kernel_rfl) (fun _ _ _ h=>h) rfl ?y17 hHeld ?r17
 case y17=>
  intro w hSw
  try dsimp only at hSw
  go_simp
  try rw [if_pos (by omega)]
  try with_reducible rfl
 try simp only [pk]
 refine' qA8 19 (v:=_) rfl (by kernel_rfl) (by kernel_rfl) (by kernel_rfl) (fun _ _ _ h=>h) rfl ?y18 hHeld ?r18
 case y18=>
  intro w hSw
  try dsimp only at hSw
  go_simp
  try rw [if_pos (by omega)]
  try with_reducible rfl
 try simp only [pk]
 refine' qA8 20 (v:=_) rfl (by kernel_rfl) (by kernel_rfl) (by kernel_rfl) (fun _ _ _ h=>h) rfl ?y19 hHeld ?r19
 case y19=>
  intro w hSw
  try dsimp only at hSw
  go_simp
  try rw [if_pos (by omega)]
  try with_reducible rfl
 try simp only [pk]
 refine' qA8 21 (v:=_) rfl (by kernel_rfl) (by kernel_rfl) (by kernel_rfl) (fun _ _ _ h=>h) rfl ?y20 hHeld ?r20
 case y20=>
  intro w hSw
  try dsimp only at hSw
  go_simp
  try rw [if_pos (by omega)]
  try with_reducible rfl
 try simp only [pk]
 refine' qA8 22 (v:=_) rfl (by kernel_rfl) (by kernel_rfl) (by kernel_rfl) (fun _ _ _ h=>h) rfl ?y21 hHeld ?r21
 case y21=>
  intro w hSw
  try dsimp only at hSw
  go_simp
  try rw [if_pos (by omega)]
  try with_reducible rfl
 try simp only [pk]
 refine' qA8 23 (v:=_) rfl (by kernel_rfl) (by kernel_rfl) (by kernel_rfl) (fun _ _ _ h=>h) rfl ?y22 hHeld ?r22
 case y22=>
  intro w hSw
  try dsimp only at hSw
  go_simp
  try rw [if_pos (by omega)]
  try with_reducible rfl
 try simp only [pk]
 refine' qA8 24 (v:=_) rfl (by kernel_rfl) (by kernel_rfl) (by kernel_rfl) (fun _ _ _ h=>h) rfl ?y23 hHeld ?r23
 case y23=>
  intro w hSw
  try dsimp only at hSw
  go_simp
  try rw [if_pos (by omega)]
  try with_reducible rfl
 try simp only [pk]
 refine' qA8 25 (v:=_) rfl (by kernel_rfl) (by kernel_rfl) (by kernel_rfl) (fun _ _ _ h=>h) rfl ?y24 hHeld ?r24
 case y24=>
  intro w hSw
  try dsimp only at hSw
  go_simp
  try rw [if_pos (by omega)]
  try with_reducible rfl
 try simp only [pk]
 refine' qA8 26 (v:=_) rfl (by kernel_rfl) (by kernel_rfl) (by kernel_rfl) (fun _ _ _ h=>h) rfl ?y25 hHeld ?r25
 case y25=>
  intro w hSw
  try dsimp only at hSw
  go_simp
  try rw [if_pos (by omega)]
  try with_reducible rfl
 try simp only [pk]
 refine wpAnyH_done (by kernel_rfl) ?_ _
 have HX:=hHeld.1
 go_wp2
 go_ret
 exact ⟨rfl,Hg.out ▸ HX.out.b⟩
theorem qAG {P:Program} {ops:Array Oper} {rest:List Oper} {o:Oper} {a:Act} {w:World} {Q:Exit→Act→World→Prop} (hw:Region.wanted o (yielded ops a.tmps)=true) (ty:TypeId) (x:Operand) (ho:o.op=.load ty x)
 (g:Nat) (hx:a.eval x=.pointer (some ⟨g,0,none⟩)) (t:TypeId) (cs:Array Value) (fr:Nat × Nat) (d:TypeDesc) (hg:w.heap[g]? = some (.cells cs t fr))
 (hu:P.underlying ty=some d) (hd:(match d with | .struct _ | .array _ _=>true | _=>false)=true) (hi:(P.info? ty).map (·.size)=some cs.size)
 (h:wpList P ops Q rest (a.put o.dst (.agg cs)) w):wpList P ops Q (o :: rest) a w:=
 wpList_step fun K hK=>by rw [if_pos hw]; exact wp_load_row ty x ho g hx t cs fr d hg hu hd hi (hK _ _ h)
set_option maxHeartbeats 4000000 in
theorem told_c (x0 x1 x2 x3 x4 y0 y1 y2:Value) (p:NF) (w:World) (hM:Mw w) (h:OkN p) (hw:(cntN p).any (fun k=>decide (40 < k))=false):Calls Tryz.prog 168 #[.agg (patV x0 x1 x2 x3 x4 p y0 y1 y2)] w fun e w'=>e=.returned (.bool true)∧Below w.heap.size w w':=by
 have HX:Hid (GX w (w.alloc (.cells (patV x0 x1 x2 x3 x4 p y0 y1 y2) 24)) w.heap.size (patV x0 x1 x2 x3 x4 p y0 y1 y2)):=hid ⟨qA2 w _,BX.new _ _ _⟩
 have HW:=hid (fun W=>within_c x0 x1 x2 x3 x4 y0 y1 y2 p W)
 rw [hw] at HW
 have HS:=hid (fun W=>qJK x0 x1 x2 x3 x4 y0 y1 y2 p W h)
 have hl:(prN p 0).length≤2000:=by
  have e:=qFQ h 0;have hls:=qGF h.small.2.1 h.small.2.2.2.2.2.2.1 h.small.2.2.2.2.2.2.2.1;obtain ⟨b1,b2,b3,b4,b5,b6,b7,b8,b9,b10⟩:=h.small;have e1:(if p.sci then 0 else 0:Nat)=0:=by split <;> rfl
  have e2:(if p.prim=0 then 1 else if p.sec=p.prim then 2 else 3:Nat)≤3:=by split <;> (try split) <;> omega
  have e3:(if 0 < p.maxFrac then 1+p.maxFrac else 0:Nat)≤41:=by split <;> omega
  have e4:(if p.sci then 1+((if p.plus then 1 else 0)+p.minExp) else 0:Nat)≤11:=by
   split
   · split <;> omega
   · omega
  omega
 have hb:bts (stz (prN p 0))=prN p 0:=pr_bts h 0
 have HP:=hid (fun W (hm:Mw W)=>parse_c (stz (prN p 0)) W hm (by rw [qA9]; omega))
 rw [hb,num_back h 0] at HP
 have HSM:=hid (fun W=>same15_c (.slice none 0 0) (.slice none 0 0) (.bool false) (.slice none 0 0) (.slice none 0 0) (.int .i64 0) (.int .i32 0) (.int .i64 0) x0 x1 x2 x3 x4 y0 y1 y2 p W)
 have hsz:=qA0 x0 x1 x2 x3 x4 p y0 y1 y2
 have HSM:Hid (∀ W,Calls Tryz.prog 227 #[.agg (patN p),.agg (patV x0 x1 x2 x3 x4 p y0 y1 y2)] W fun e w'=>e=.returned (.bool true)∧Below W.heap.size W w'):=HSM
 have HM:=hid hM
 clear hM h hw hl hb
 generalize stz (prN p 0)=T at *
 generalize patV x0 x1 x2 x3 x4 p y0 y1 y2=PV at *
 go_enter Tryz.func168,Tryz.ntmps168
 go_upto_region 1 with fail
 generalize w.alloc (.cells PV 24)=W at *
 generalize hg:w.heap.size=g at *
 have Hg:=hid hg
 clear hg
 have hbx:=HX.out.bx
 go_upto_region 4 with (first
  | (refine wpList_load_row rfl 24 _ rfl g rfl 24 PV (0,0) _ hbx Tryz.underlying24 rfl hsz ?_)
  | (go_at_call 226; refine (HW.out _).mono ?_; rintro e w1 ⟨rfl,hb⟩; have HX:=hid (HX.out.below hb); have hbx:=HX.out.bx; clear hb)
  | (go_at_call 169; refine (HS.out _).mono ?_; rintro e w2 ⟨rfl,hb⟩; have HX:=hid (HX.out.below hb); have hbx:=HX.out.bx; clear hb)
  | (go_at_call 88; refine (HP.out _ (HM.out.below (Hg.out ▸ HX.out.b))).mono ?_; rintro e w3 ⟨rfl,hb⟩; have HX:=hid (HX.out.below hb); clear hb)
  | (refine wpList_store_row rfl 24 _ _ rfl w3.heap.size (patN p) rfl rfl 24 patZ (BX.new w3 patZ _) (qA0 ..) rfl (qA5 _) ?_)
  | fail)
 have hle:g≤w3.heap.size:=Nat.le_of_lt HX.out.bx.lt
 have hlt:g < w3.heap.size:=HX.out.bx.lt
 have hbh:BX ((w3.alloc (.cells patZ 24)).setRow w3.heap.size (patN p)) w3.heap.size (patN p) 24:=setRow_heap _ _ patZ _ _ _ (BX.new w3 patZ _)
 have hbx:BX ((w3.alloc (.cells patZ 24)).setRow w3.heap.size (patN p)) g PV 24:=(setRow_other _ _ _ _ (Nat.ne_of_lt hlt)).trans (HX.out.bx.alloc _)
 have HB:Hid (Below w.heap.size w ((w3.alloc (.cells patZ 24)).setRow w3.heap.size (patN p))):=hid ((HX.out.b.alloc (by rw [Hg.out]; exact hle) _).setRow (by rw [Hg.out]; exact hle) _)
 change Code.wp _ _ _ _ ((w3.alloc (.cells patZ 24)).setRow w3.heap.size (patN p))
 generalize (w3.alloc (.cells patZ 24)).setRow w3.heap.size (patN p)=W4 at *
 generalize w3.heap.size=gh at *
 go_wp2_with (first
  | (refine qAG rfl 24 _ rfl g rfl 24 PV (0,0) _ hbx Tryz.underlying24 rfl hsz ?_)
  | (refine qAG rfl 24 _ rfl gh rfl 24 (patN p) (0,0) _ hbh Tryz.underlying24 rfl (qA0 ..) ?_)
  | (go_at_call 227; refine (HSM.out _).mono ?_; rintro e w5 ⟨rfl,hb⟩)
  | fail)
 go_ret
 exact ⟨rfl,Hg.out ▸ HB.out.trans (hb.mono HB.out.size)⟩
theorem OkN.within {p:NF} (h:OkN p):(cntN p).any (fun k=>decide (40 < k))=false:=by
 obtain ⟨b1,b2,b3,b4,b5,b6,b7,b8,b9,b10⟩:=h.small
 have hb:=h.big
 simp only [bigN,Bool.or_eq_false_iff,decide_eq_false_iff_not] at hb
 have hi:=hb.2
 refine qBK fun c hc=>decide_eq_false ?_
 simp only [cntN,List.mem_cons,List.not_mem_nil,or_false] at hc
 rcases hc with rfl | rfl | rfl | rfl | rfl | rfl | rfl | rfl | rfl | rfl <;> omega
set_option maxHeartbeats 4000000 in
theorem print_c (x0 x1 x2 x3 x4 y0 y1 y2:Value) (p:NF) (m:Int) (w:World) (hM:Mw w) (h:OkN p) (hm:m≤1000):Calls Tryz.prog 115 #[.agg (patV x0 x1 x2 x3 x4 p y0 y1 y2),.int .i64 m] w fun e w'=>e=.returned (.string (stz (prN p m.toNat)))∧Below w.heap.size w w':=by
 have HX:Hid (GX w (w.alloc (.cells (patV x0 x1 x2 x3 x4 p y0 y1 y2) 24)) w.heap.size (patV x0 x1 x2 x3 x4 p y0 y1 y2)):=hid ⟨qA2 w _,BX.new _ _ _⟩
 have HT:=hid (fun W (hq:Mw W)=>told_c x0 x1 x2 x3 x4 y0 y1 y2 p W hq h h.within)
 have HS:=hid (fun W=>qJK x0 x1 x2 x3 x4 y0 y1 y2 p W h)
 have hsz:=qA0 x0 x1 x2 x3 x4 p y0 y1 y2
 have h14:(patV x0 x1 x2 x3 x4 p y0 y1 y2)[14]? = some (.bool p.sci):=rfl
 have hl:(stz (prN p 0)).size≤2000:=by
  have e:=qFQ h 0;have hls:=qGF h.small.2.1 h.small.2.2.2.2.2.2.1 h.small.2.2.2.2.2.2.2.1;obtain ⟨b1,b2,b3,b4,b5,b6,b7,b8,b9,b10⟩:=h.small;have e1:(if p.sci then 0 else 0:Nat)=0:=by split <;> rfl
  have e2:(if p.prim=0 then 1 else if p.sec=p.prim then 2 else 3:Nat)≤3:=by split <;> (try split) <;> omega
  have e3:(if 0 < p.maxFrac then 1+p.maxFrac else 0:Nat)≤41:=by split <;> omega
  have e4:(if p.sci then 1+((if p.plus then 1 else 0)+p.minExp) else 0:Nat)≤11:=by
   split
   · split <;> omega
   · omega
  rw [qA9];omega
 have HSC:Hid (p.sci=true→stz (prN p m.toNat)=stz (prN p 0)):=hid (fun e=>by rw [pr_sci e])
 have HMO:Hid (p.sci=false→stz (prN p m.toNat)=stz (List.replicate m.toNat 35)++stz (prN p 0)):=hid (fun e=>by rw [pr_more h e,qAA])
 have HR:Hid (∀ W,Calls Tryz.prog 170 #[.string ⟨#[35]⟩,.int .i64 m] W fun e w'=>e=.returned (.string (stz (List.replicate m.toNat 35)))∧Below W.heap.size W w'):=hid (fun W=>row_c 35 m W (by omega))
 have hrl:(stz (List.replicate m.toNat 35)).size≤1000:=by rw [qA9,List.length_replicate]; omega
 have HZ:Hid (m≤0→stz (List.replicate m.toNat 35)++stz (prN p 0)=stz (prN p 0)):=hid (fun e=>by
  rw [show m.toNat=0 by omega,← qAA]; rfl)
 have HM:=hid hM
 clear hM h
 generalize stz (prN p m.toNat)=R at *
 generalize stz (List.replicate m.toNat 35)=H at *
 generalize stz (prN p 0)=T at *
 generalize p.sci=sc at *
 generalize patV x0 x1 x2 x3 x4 p y0 y1 y2=PV at *
 go_enter Tryz.func115,Tryz.ntmps115
 go_upto_region 1 with fail
 generalize w.alloc (.cells PV 24)=W at *
 generalize hg:w.heap.size=g at *
 have Hg:=hid hg
 clear hg
 have hbx:=HX.out.bx
 go_upto_region 4 with (first
  | (refine wpList_load_row rfl 24 _ rfl g rfl 24 PV (0,0) _ hbx Tryz.underlying24 rfl hsz ?_)
  | (go_at_call 168; refine (HT.out _ (HM.out.below (Hg.out ▸ HX.out.b))).mono ?_; rintro e w1 ⟨rfl,hb⟩; have HX:=hid (HX.out.below hb); have hbx:=HX.out.bx; clear hb)
  | (go_at_call 169; refine (HS.out _).mono ?_; rintro e w2 ⟨rfl,hb⟩; have HX:=hid (HX.out.below hb); have hbx:=HX.out.bx; clear hb)
  | fail)
 have c14:=(hbx.c 14).trans h14
 clear hbx
 rcases sc with _ | _
 · by_cases h0:m≤0
   · have e:R=T:=(HMO.out rfl).trans (HZ.out h0)
     subst e
     go_wp2
     go_ret
     exact ⟨rfl,Hg.out ▸ HX.out.b⟩
   · have e:R=H++T:=HMO.out rfl
     subst e;have q1:¬ (2147483647 - (T.size:Int) < m):=by omega
     have q2:¬ 9223372036854775807 < H.size+T.size:=by omega
     go_wp2_with (go_at_call 170; refine (HR.out _).mono ?_; rintro e w3 ⟨rfl,hb⟩; have HX:=hid (HX.out.below hb); clear hb)
     go_ret
     exact ⟨rfl,Hg.out ▸ HX.out.b⟩
 · have e:R=T:=HSC.out rfl
   subst e
   go_wp2
   go_ret
   exact ⟨rfl,Hg.out ▸ HX.out.b⟩
set_option maxHeartbeats 2000000 in
theorem sameF_c (x0 x1 x2 x3 x4 y0 y1 y2 u0 u1 u2 u3 u4 v0 v1 v2:Value) (a5 a6 a7 a8 a9 a10 a11 a12 a15:Int) (a13:ByteArray) (a14 a16:Bool) (w:World) :
 Calls Tryz.prog 51 #[.agg #[x0,x1,x2,x3,x4,.int .i64 a5,.int .i64 a6,.int .i64 a7,.int .i64 a8,.int .i64 a9,.int .i64 a10,.int .i64 a11,.int .i64 a12,.string a13,.bool a14,.int .i64 a15,.bool a16,y0,y1,y2],
  .agg #[u0,u1,u2,u3,u4,.int .i64 a5,.int .i64 a6,.int .i64 a7,.int .i64 a8,.int .i64 a9,.int .i64 a10,.int .i64 a11,.int .i64 a12,.string a13,.bool a14,.int .i64 a15,.bool a16,v0,v1,v2]] w fun e w'=>e=.returned (.bool true)∧Below w.heap.size w w':=by
 go_enter Tryz.func51,Tryz.ntmps51
 go_wp2
 go_ret
 exact ⟨rfl,((Below.refl _ _).alloc (Nat.le_refl _) _).alloc (by simp) _⟩
section
variable {w w1:World} {B a:Nat} {us vs:Array Value} {T:TypeId}
theorem st_below (hb:Below B w w1) (hB:B≤w1.heap.size):Below B w ((w1.alloc (.cells patZ 24)).setRow w1.heap.size vs):=(hb.alloc hB _).setRow hB _
theorem st_new:BX ((w1.alloc (.cells patZ 24)).setRow w1.heap.size vs) w1.heap.size vs 24:=setRow_heap _ _ patZ _ _ _ (BX.new w1 patZ _)
theorem st_old (h:BX w1 a us T):BX ((w1.alloc (.cells patZ 24)).setRow w1.heap.size vs) a us T:=(setRow_other _ _ _ _ (Nat.ne_of_lt h.lt)).trans (h.alloc _)
end
end Go.Proofs.YtnoeonaajefajaaGreatDoor
