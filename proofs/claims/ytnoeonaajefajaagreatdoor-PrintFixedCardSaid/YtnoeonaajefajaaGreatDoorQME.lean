import Derived.Lib.MinMax
import Derived.Deep.DeepCutAuto
import Derived.Test.YtnoeonaajefajaaGreatDoorQNQ
set_option linter.all false
set_option maxRecDepth 100000
namespace Go.Proofs.YtnoeonaajefajaaGreatDoor
open Go.RowKit
open Lib (hid)
set_option maxHeartbeats 2000000 in
theorem row_c (c:UInt8) (n:Int) (w:World) (hn:n≤140737488355328):Calls Tryz.prog 170 #[.string ⟨#[c]⟩,.int .i64 n] w fun e w'=>e=.returned (.string (stz (List.replicate n.toNat c.toNat)))∧Below w.heap.size w w':=by
 have HC:=hid (fun W=>repeat_c c n.toNat W (by omega))
 obtain ⟨k,hk⟩:∃ k:Nat,n.toNat=k:=⟨_,rfl⟩
 rw [hk] at HC ⊢
 have hmx:max n 0=(k:Int):=by omega
 go_enter Tryz.func170,Tryz.ntmps170
 go_wp2_with (go_at_call 161; refine (HC.out _).mono ?_; rintro e w1 ⟨rfl,hb⟩)
 go_ret
 exact ⟨rfl,hb⟩
theorem cmZ_small {P S:Nat} {l:List Nat} (h:l.length < P):cmZ P S l=l:=by
 induction l with
 | nil=>rfl
 | cons c t ih=>
  rw [List.length_cons] at h;rw [cmZ,if_neg (by omega),ih (by omega)]; rfl
theorem cmZ_at {P S:Nat} (hP:1≤P) {b:List Nat} (hb:b.length=P):cmZ P S b=44 :: b:=by
 cases b with
 | nil=>simp at hb; omega
 | cons c t=>
  rw [List.length_cons] at hb;rw [cmZ,if_pos ⟨by omega,.inl hb⟩,cmZ_small (by omega)]; rfl
theorem cmZ_same {P:Nat} (hP:1≤P) {b:List Nat} (hb:b.length=P) (a:List Nat):cmZ P P (a++b)=a++44 :: b:=by
 induction a with
 | nil=>exact cmZ_at hP hb
 | cons c t ih=>
  show cmZ P P (c :: (t++b))=_
  rw [cmZ,if_neg (by rw [List.length_append]; omega),ih]; rfl
theorem cmZ_mid {P S:Nat} (hP:1≤P) {b:List Nat} (hb:b.length=P) {m:List Nat} (hm:m.length < S):cmZ P S (m++b)=m++44 :: b:=by
 induction m with
 | nil=>exact cmZ_at hP hb
 | cons c t ih=>
  rw [List.length_cons] at hm
  show cmZ P S (c :: (t++b))=_
  rw [cmZ,if_neg (by rw [List.length_append]; omega),ih (by omega)]; rfl
theorem cmZ_two {P S:Nat} (hP:1≤P) (hS:1≤S) (hSP:S≠P) {b m:List Nat} (hb:b.length=P) (hm:m.length=S) (a:List Nat):cmZ P S (a++(m++b))=a++44 :: (m++44 :: b):=by
 induction a with
 | nil=>
  cases m with
  | nil=>simp at hm; omega
  | cons x m'=>
   rw [List.length_cons] at hm
   show cmZ P S (x :: (m'++b))=_
   rw [cmZ,if_pos ⟨by omega,.inr ⟨hSP,by rw [List.length_append]; omega⟩⟩,cmZ_mid hP hb (by omega)]; rfl
 | cons c t ih=>
  show cmZ P S (c :: (t++(m++b)))=_
  rw [cmZ,if_neg (by rw [List.length_append,List.length_append]; omega),ih]; rfl
theorem cmW_zero (S:Nat) (l:List Nat):cmW 0 S l=l:=by
 cases l with
 | nil=>rfl
 | cons c t=>rw [cmW,qI9]
theorem cmW_same {P:Nat} (hP:1≤P) {l:List Nat} (h:P < l.length):cmW P P l=l.take (l.length - P)++44 :: l.drop (l.length - P):=by
 cases l with
 | nil=>simp at h
 | cons c t=>
  rw [List.length_cons] at h ⊢;rw [cmW,show t.length+1 - P=(t.length - P)+1 by omega,List.take_succ_cons,List.drop_succ_cons];have:=cmZ_same hP (b:=t.drop (t.length - P)) (by rw [List.length_drop]; omega) (t.take (t.length - P));rw [List.take_append_drop] at this;rw [this]; rfl
theorem cmW_two {P S:Nat} (hP:1≤P) (hS:1≤S) (hSP:S≠P) {l:List Nat} (h:P+S < l.length):cmW P S l=l.take (l.length - P - S)++44 :: ((l.take (l.length - P)).drop (l.length - P - S)++44 :: l.drop (l.length - P)):=by
 cases l with
 | nil=>simp at h
 | cons c t=>
  rw [List.length_cons] at h ⊢;rw [cmW,show t.length+1 - P - S=(t.length - P - S)+1 by omega,show t.length+1 - P=(t.length - P)+1 by omega,List.take_succ_cons,List.take_succ_cons,List.drop_succ_cons,List.drop_succ_cons];have:=cmZ_two hP hS hSP (b:=t.drop (t.length - P)) (m:=(t.take (t.length - P)).drop (t.length - P - S)) (by rw [List.length_drop]; omega) (by rw [List.length_drop,List.length_take]; omega) (t.take (t.length - P - S))
  show c :: cmZ P S t=c :: (t.take (t.length - P - S)++44 :: ((t.take (t.length - P)).drop (t.length - P - S)++44 :: t.drop (t.length - P)))
  rw [← this]
  congr 2
  rw [← List.append_assoc];have e:t.take (t.length - P - S)++(t.take (t.length - P)).drop (t.length - P - S)=t.take (t.length - P):=by
   conv=>rhs; rw [← List.take_append_drop (t.length - P - S) (t.take (t.length - P)),List.take_take,Nat.min_eq_left (by omega)]
  rw [e,List.take_append_drop]
set_option maxHeartbeats 2000000 in
theorem least_c (x0 x1 x2 x3 x4 y0 y1 y2:Value) (p:NF) (w:World) (h7:p.prim≤40) (h8:p.sec≤40):Calls Tryz.prog 229 #[.agg (patV x0 x1 x2 x3 x4 p y0 y1 y2)] w fun e w'=>e=.returned (.int .i64 ((leastN p:Nat):Int))∧Below w.heap.size w w':=by
 have HL:Hid (leastN p=if (p.sci && decide (p.minSig=0))=true then p.maxInt else if 0 < p.prim then p.prim+1+(if p.sec≠p.prim then p.sec else 0) else if p.maxFrac=0 then 1 else 0):=hid (by
  unfold leastN;rw [show (p.minSig == 0)=decide (p.minSig=0) from rfl])
 have HB:=hid (qA2 w (.cells (patV x0 x1 x2 x3 x4 p y0 y1 y2) 24))
 have hbx:BX (w.alloc (.cells (patV x0 x1 x2 x3 x4 p y0 y1 y2) 24)) w.heap.size (patV x0 x1 x2 x3 x4 p y0 y1 y2) 24:=BX.new _ _ _
 generalize hl:leastN p=ln at *
 clear hl
 go_enter Tryz.func229,Tryz.ntmps229
 go_upto_region 1 with fail
 generalize w.alloc (.cells (patV x0 x1 x2 x3 x4 p y0 y1 y2) 24)=W at *
 generalize hg:w.heap.size=g at *
 have Hg:=hid hg
 clear hg
 have c6:W.cell? ⟨g,6,none⟩=some (.int .i64 (p.maxInt:Int)):=hbx.c 6
 have c8:W.cell? ⟨g,8,none⟩=some (.int .i64 (p.maxFrac:Int)):=hbx.c 8
 have c9:W.cell? ⟨g,9,none⟩=some (.int .i64 (p.minSig:Int)):=hbx.c 9
 have c11:W.cell? ⟨g,11,none⟩=some (.int .i64 (p.prim:Int)):=hbx.c 11
 have c12:W.cell? ⟨g,12,none⟩=some (.int .i64 (p.sec:Int)):=hbx.c 12
 have c14:W.cell? ⟨g,14,none⟩=some (.bool p.sci):=hbx.c 14
 clear hbx
 have hw1:IntKind.i64.wrap ((p.prim:Int)+(p.sec:Int))=(p.prim:Int)+(p.sec:Int):=IntWalk.i64_in _ (by omega)
 have hrest:∀ b,(p.sci && decide (p.minSig=0))=b→b=false→ln=if 0 < p.prim then p.prim+1+(if p.sec≠p.prim then p.sec else 0) else if p.maxFrac=0 then 1 else 0:=by
  intro b e1 e2;have:=HL.out;rw [e1,e2] at this;exact this
 have HR:=hid hrest
 clear hrest
 by_cases hs:p.sci=true
 · by_cases h9:p.minSig=0
   · have g9:((p.minSig:Int) == 0)=true:=by simp only [beq_iff_eq]; omega
     have hln:=HL.out;rw [hs,decide_eq_true h9] at hln;simp only [Bool.and_self,if_true] at hln;rw [hs] at c14;clear h9 hs
     go_wp2
     go_ret
     rw [hln];exact ⟨rfl,Hg.out ▸ HB.out⟩
   · have g9:((p.minSig:Int) == 0)=false:=by simp only [beq_eq_false_iff_ne,ne_eq]; omega
     have hln:=HR.out _ rfl (by rw [decide_eq_false h9,Bool.and_false]);rw [hs] at c14;clear h9 hs
     by_cases hP:0 < p.prim
     · have g1:decide ((0:Int) < (p.prim:Int))=true:=decide_eq_true (by omega)
       rw [if_pos hP] at hln
       by_cases hS:p.sec=p.prim
       · have g2:((p.sec:Int) != (p.prim:Int))=false:=by simp only [bne_eq_false_iff_eq]; omega
         rw [if_neg (fun e=>e hS)] at hln;have HN:=hid (show (p.prim:Int)+1=(ln:Int) by omega);clear hS hln
         go_wp2
         go_ret
         rw [← HN.out];exact ⟨rfl,Hg.out ▸ HB.out⟩
       · have g2:((p.sec:Int) != (p.prim:Int))=true:=by simp only [bne_iff_ne,ne_eq]; omega
         rw [if_pos hS] at hln;have HN:=hid (show (p.prim:Int)+(p.sec:Int)+1=(ln:Int) by omega);clear hS hln
         go_wp2
         go_ret
         rw [← HN.out];exact ⟨rfl,Hg.out ▸ HB.out⟩
     · have g1:decide ((0:Int) < (p.prim:Int))=false:=decide_eq_false (by omega)
       rw [if_neg hP] at hln
       by_cases hF:p.maxFrac=0
       · have g2:((p.maxFrac:Int) == 0)=true:=by simp only [beq_iff_eq]; omega
         rw [if_pos hF] at hln;clear hF
         go_wp2
         go_ret
         rw [hln];exact ⟨rfl,Hg.out ▸ HB.out⟩
       · have g2:((p.maxFrac:Int) == 0)=false:=by simp only [beq_eq_false_iff_ne,ne_eq]; omega
         rw [if_neg hF] at hln;clear hF
         go_wp2
         go_ret
         rw [hln];exact ⟨rfl,Hg.out ▸ HB.out⟩
 · rw [Bool.not_eq_true] at hs
   have hln:=HR.out _ rfl (by rw [hs,Bool.false_and]);rw [hs] at c14;clear hs
   by_cases hP:0 < p.prim
   · have g1:decide ((0:Int) < (p.prim:Int))=true:=decide_eq_true (by omega)
     rw [if_pos hP] at hln
     by_cases hS:p.sec=p.prim
     · have g2:((p.sec:Int) != (p.prim:Int))=false:=by simp only [bne_eq_false_iff_eq]; omega
       rw [if_neg (fun e=>e hS)] at hln;have HN:=hid (show (p.prim:Int)+1=(ln:Int) by omega);clear hS hln
       go_wp2
       go_ret
       rw [← HN.out];exact ⟨rfl,Hg.out ▸ HB.out⟩
     · have g2:((p.sec:Int) != (p.prim:Int))=true:=by simp only [bne_iff_ne,ne_eq]; omega
       rw [if_pos hS] at hln;have HN:=hid (show (p.prim:Int)+(p.sec:Int)+1=(ln:Int) by omega);clear hS hln
       go_wp2
       go_ret
       rw [← HN.out];exact ⟨rfl,Hg.out ▸ HB.out⟩
   · have g1:decide ((0:Int) < (p.prim:Int))=false:=decide_eq_false (by omega)
     rw [if_neg hP] at hln
     by_cases hF:p.maxFrac=0
     · have g2:((p.maxFrac:Int) == 0)=true:=by simp only [beq_iff_eq]; omega
       rw [if_pos hF] at hln;clear hF
       go_wp2
       go_ret
       rw [hln];exact ⟨rfl,Hg.out ▸ HB.out⟩
     · have g2:((p.maxFrac:Int) == 0)=false:=by simp only [beq_eq_false_iff_ne,ne_eq]; omega
       rw [if_neg hF] at hln;clear hF
       go_wp2
       go_ret
       rw [hln];exact ⟨rfl,Hg.out ▸ HB.out⟩
theorem qGE (T:ByteArray) {i j:Nat} (hij:i≤j) (hj:j≤T.size):(T.extract i j).size=j - i:=by rw [ByteArray.size_extract]; omega
set_option maxHeartbeats 4000000 in
theorem grouped_c (x0 x1 x2 x3 x4 y0 y1 y2:Value) (p:NF) (T:ByteArray) (w:World) (hg0:(p.prim=0)∨(1≤p.prim∧1≤p.sec∧p.sci=false)) (hl:0 < p.prim→p.prim+1+(if p.sec≠p.prim then p.sec else 0)≤T.size) (hT:T.size≤1000000) :
 Calls Tryz.prog 228 #[.agg (patV x0 x1 x2 x3 x4 p y0 y1 y2),.string T] w fun e w'=>e=.returned (.string (stz (cmW p.prim p.sec (bts T))))∧Below w.heap.size w w':=by
 have HB:=hid (qA2 w (.cells (patV x0 x1 x2 x3 x4 p y0 y1 y2) 24))
 have hbx:BX (w.alloc (.cells (patV x0 x1 x2 x3 x4 p y0 y1 y2) 24)) w.heap.size (patV x0 x1 x2 x3 x4 p y0 y1 y2) 24:=BX.new _ _ _
 obtain ⟨R,hR⟩:∃ R,stz (cmW p.prim p.sec (bts T))=R:=⟨_,rfl⟩
 rw [hR]
 have HR:=hid hR
 clear hR
 go_enter Tryz.func228,Tryz.ntmps228
 go_upto_region 1 with fail
 generalize w.alloc (.cells (patV x0 x1 x2 x3 x4 p y0 y1 y2) 24)=W at *
 generalize hg:w.heap.size=g at *
 have Hg:=hid hg
 clear hg
 have c11:W.cell? ⟨g,11,none⟩=some (.int .i64 (p.prim:Int)):=hbx.c 11
 have c12:W.cell? ⟨g,12,none⟩=some (.int .i64 (p.sec:Int)):=hbx.c 12
 have c14:W.cell? ⟨g,14,none⟩=some (.bool p.sci):=hbx.c 14
 clear hbx
 rcases hg0 with h0 | ⟨h1,h2,h3⟩
 · have hRT:R=T:=by rw [← HR.out,h0,cmW_zero,qI2]
   have g0:((p.prim:Int) == 0)=true:=by simp only [beq_iff_eq]; omega
   subst hRT;clear h0 hl
   cases hs:p.sci
   all_goals
    rw [hs] at c14;clear hs
    go_wp2
    go_ret
    exact ⟨rfl,Hg.out ▸ HB.out⟩
 · have hl':=hl (by omega)
   rw [h3] at c14;have g0:((p.prim:Int) == 0)=false:=by simp only [beq_eq_false_iff_ne,ne_eq]; omega
   obtain ⟨k,hk⟩:∃ k,T.size - p.prim=k:=⟨_,rfl⟩;have hkI:(T.size:Int) - (p.prim:Int)=(k:Int):=by split at hl' <;> omega
   have hkT:k≤T.size:=by omega
   have s1:=qGE T (Nat.zero_le k) hkT;have s2:=qGE T hkT (Nat.le_refl _)
   by_cases hS:p.sec=p.prim
   · have g2:((p.sec:Int) == (p.prim:Int))=true:=by simp only [beq_iff_eq]; omega
     rw [if_neg (fun e=>e hS)] at hl';have HV:=hid (show T.extract 0 k++⟨#[44]⟩++T.extract k T.size=R by
      rw [← HR.out,hS,cmW_same h1 (by rw [qA1]; omega),qA1,hk];refine qE9 ?_;rw [qAP,qAP,qBL,qB7,List.append_assoc]; rfl)
     have q1:¬ 9223372036854775807 < (T.extract 0 k).size+1:=by omega
     have q2:¬ 9223372036854775807 < (T.extract 0 k).size+1+(T.extract k T.size).size:=by omega
     have q3:¬ 9223372036854775807 < (T.extract 0 k++⟨#[44]⟩).size+(T.extract k T.size).size:=by rw [ByteArray.size_append]; show ¬ _ < _+1+_; omega
     clear hS hl hl' h1 h2 hk
     go_wp2
     go_quiet (fail)
     go_wp2
     go_ret
     rw [HV.out];exact ⟨rfl,(Hg.out ▸ HB.out).of_drewN _⟩
   · have g2:((p.sec:Int) == (p.prim:Int))=false:=by simp only [beq_eq_false_iff_ne,ne_eq]; omega
     rw [if_pos hS] at hl';obtain ⟨j,hj⟩:∃ j,k - p.sec=j:=⟨_,rfl⟩;have hjI:(k:Int) - (p.sec:Int)=(j:Int):=by omega
     have hjk:j≤k:=by omega
     have s3:=qGE T (Nat.zero_le j) (by omega);have s4:=qGE T hjk hkT;have HV:=hid (show T.extract 0 j++⟨#[44]⟩++T.extract j k++⟨#[44]⟩++T.extract k T.size=R by
      rw [← HR.out,cmW_two h1 h2 hS (by rw [qA1]; omega),qA1,hk,hj];refine qE9 ?_;rw [qAP,qAP,qAP,qAP,qBL,qB7,qC7,List.append_assoc,List.append_assoc,List.append_assoc]; rfl)
     have q1:¬ 9223372036854775807 < (T.extract 0 j).size+1:=by omega
     have q2:¬ 9223372036854775807 < (T.extract 0 j).size+1+(T.extract j k).size:=by omega
     have q3:¬ 9223372036854775807 < (T.extract 0 j).size+1+(T.extract j k).size+1:=by omega
     have q4:¬ 9223372036854775807 < (T.extract 0 j).size+1+(T.extract j k).size+1+(T.extract k T.size).size:=by omega
     have z1:(⟨#[44]⟩:ByteArray).size=1:=rfl;have q2':¬ 9223372036854775807 < (T.extract 0 j++⟨#[44]⟩).size+(T.extract j k).size:=by rw [ByteArray.size_append,z1]; omega
     have q3':¬ 9223372036854775807 < (T.extract 0 j++⟨#[44]⟩++T.extract j k).size+1:=by rw [ByteArray.size_append,ByteArray.size_append,z1]; omega
     have q4':¬ 9223372036854775807 < (T.extract 0 j++⟨#[44]⟩++T.extract j k++⟨#[44]⟩).size+(T.extract k T.size).size:=by rw [ByteArray.size_append,ByteArray.size_append,ByteArray.size_append,z1]; omega
     clear hS hl hl' h1 h2 hk hj z1
     go_wp2
     go_quiet (fail)
     go_wp2
     go_ret
     rw [HV.out];exact ⟨rfl,(Hg.out ▸ HB.out).of_drewN _⟩
theorem qBD {P:Program} {o:Oper} {ev:Operand→Value} {w:World} (ty:TypeId) (x:Operand) (ho:o.op=.load ty x) (g:Nat) (hx:ev x=.pointer (some ⟨g,0,none⟩)) (t:TypeId) (cs:Array Value) (fr:Nat × Nat) (d:TypeDesc) (hg:w.heap[g]? = some (.cells cs t fr))
 (hu:P.underlying ty=some d) (hd:(match d with | .struct _ | .array _ _=>true | _=>false)=true) (hi:(P.info? ty).map (·.size)=some cs.size):(execOp ev o).run P w=.ok (.value (.agg cs)) w:=by
 unfold execOp
 simp only [ho,hx,Instr.loadAt,Instr.sureAddr,Sem.run_bind,Sem.run_pure,Result.andThen_ok,run_loadVar_row w g t ty cs fr d hg hu hd hi]
theorem qLV (c:UInt8) (n:Nat) (w:World) (hn:n≤1000000):Calls Tryz.prog 170 #[.string ⟨#[c]⟩,.int .i64 (n:Int)] w fun e w'=>e=.returned (.string (stz (List.replicate n c.toNat)))∧Below w.heap.size w w':=by
 have:=row_c c (n:Int) w (by omega)
 rwa [Int.toNat_natCast] at this
structure GX (w0 W:World) (g:Nat) (vs:Array Value):Prop where
 b:Below w0.heap.size w0 W
 bx:BX W g vs 24
section
variable {w0 W:World} {g:Nat} {vs:Array Value} {x0 x1 x2 x3 x4 y0 y1 y2:Value} {p:NF}
theorem GX.below {W':World} (x:GX w0 W g vs) (hb:Below W.heap.size W W'):GX w0 W' g vs:=⟨x.b.trans (hb.mono x.b.size),x.bx.below hb x.bx.lt⟩
theorem GX.drew (x:GX w0 W g vs):GX w0 W.drew g vs:=⟨x.b.drew,x.bx⟩
theorem GX.S (x:GX w0 W g (patV x0 x1 x2 x3 x4 p y0 y1 y2)):Hid (GX w0 W g (patV x0 x1 x2 x3 x4 p y0 y1 y2))∧W.cell? ⟨g,5,none⟩=some (.int .i64 (p.minInt:Int))∧W.cell? ⟨g,6,none⟩=some (.int .i64 (p.maxInt:Int))∧W.cell? ⟨g,7,none⟩=some (.int .i64 (p.minFrac:Int))∧W.cell? ⟨g,8,none⟩=some (.int .i64 (p.maxFrac:Int))∧W.cell? ⟨g,9,none⟩=some (.int .i64 (p.minSig:Int))∧W.cell? ⟨g,10,none⟩=some (.int .i64 (p.maxSig:Int))∧W.cell? ⟨g,13,none⟩=some (.string (stz p.inc))∧W.cell? ⟨g,14,none⟩=some (.bool p.sci)∧W.cell? ⟨g,15,none⟩=some (.int .i64 (p.minExp:Int))∧W.cell? ⟨g,16,none⟩=some (.bool p.plus):=⟨hid x,x.bx.c 5,x.bx.c 6,x.bx.c 7,x.bx.c 8,x.bx.c 9,x.bx.c 10,x.bx.c 13,x.bx.c 14,x.bx.c 15,x.bx.c 16⟩
end
def SMid (w0:World) (g:Nat) (vs:Array Value) (v u:Value) (W':World):Prop:=u=v∧GX w0 W' g vs
set_option maxHeartbeats 8000000 in
theorem qJK (x0 x1 x2 x3 x4 y0 y1 y2:Value) (p:NF) (w:World) (h:OkN p):Calls Tryz.prog 169 #[.agg (patV x0 x1 x2 x3 x4 p y0 y1 y2)] w fun e w'=>e=.returned (.string (stz (prN p 0)))∧Below w.heap.size w w':=by
 obtain ⟨b1,b2,b3,b4,b5,b6,b7,b8,b9,b10⟩:=h.small
 have hI:(stz p.inc).size=p.inc.length:=qA9 _
 have HD:Hid (stz (List.replicate (p.minInt+p.minFrac - p.inc.length) 48)++stz p.inc=stz (dgs p)):=hid (by rw [dgs,qAA])
 have hdl:(stz (dgs p)).size=p.minInt+p.minFrac:=by rw [qA9,qGX b9]
 have hd256:∀ c ∈ dgs p,c < 256:=fun c hc=>by have:=qJC.1 (qLO h.incs.2 c hc); omega
 have HB0:Hid (0 < p.minSig→stz (List.replicate p.minSig 64)++stz (List.replicate (p.maxSig - p.minSig) 35)=stz (qCH p)):=hid (fun hp=>by
  rcases h.kind with ⟨_,k1,_⟩ | ⟨⟨k1,_⟩,_⟩
  · rw [qCH,k1,List.take_zero,List.nil_append,qAA]
  · omega)
 have HB1:Hid (p.minSig=0→(stz (dgs p)).extract 0 p.minInt=stz (qCH p)):=hid (fun hp=>by
  rcases h.kind with ⟨⟨k1,_⟩,_⟩ | ⟨⟨_,k2⟩,_⟩
  · omega
  · refine qE9 ?_
    rw [qBL,qAE hd256,qCH,hp,k2]; simp)
 have HFR:Hid (⟨#[46]⟩++(stz (dgs p)).extract p.minInt (stz (dgs p)).size++stz (List.replicate (p.maxFrac - p.minFrac) 35)=stz (46 :: frcN p)):=hid (by
  rw [show 46 :: frcN p=[46]++((dgs p).drop p.minInt++List.replicate (p.maxFrac - p.minFrac) 35) from rfl,qAA,qAA,← ByteArray.append_assoc]
  congr 1
  congr 1
  apply qDS
  rw [qB7,qAE hd256,qAE fun c hc=>hd256 c (List.mem_of_mem_drop hc)])
 rw [hdl] at HFR
 have C1:=hid (fun W=>qLV 48 (p.minInt+p.minFrac - p.inc.length) W (by omega))
 have C2:=hid (fun W=>qLV 64 p.minSig W (by omega))
 have C3:=hid (fun W=>qLV 35 (p.maxSig - p.minSig) W (by omega))
 have C4:=hid (fun W=>qLV 35 (p.maxFrac - p.minFrac) W (by omega))
 have C5:=hid (fun W=>qLV 48 p.minExp W (by omega))
 have hsB:(stz (qCH p)).size=p.minInt+p.maxSig:=by rw [qA9,qF3 h]
 have hlsm:=qGF b2 b7 b8
 have C6:=hid (fun W=>row_c 35 ((leastN p:Int) - ((p.minInt+p.maxSig:Nat):Int)) W (by omega))
 have HLE:=hid (fun W=>least_c x0 x1 x2 x3 x4 y0 y1 y2 p W b7 b8)
 have HT:Hid (stz (List.replicate ((leastN p:Int) - ((p.minInt+p.maxSig:Nat):Int)).toNat 35)++stz (qCH p)=stz (whl p 0)):=hid (by
  rw [whl,qF3 h,show ((leastN p:Int) - ((p.minInt+p.maxSig:Nat):Int)).toNat=leastN p - (p.minInt+p.maxSig) by omega,← qAA]
  congr 1
  cases p.sci <;> rfl)
 have hwl:(stz (whl p 0)).size≤1000000:=by
  rw [qA9,qFN h]
  split <;> omega
 have hwb:bts (stz (whl p 0))=whl p 0:=qAE fun c hc=>by
  have:=qJ9 h 0 c hc;simp only [okW,h35,a64,dg,Bool.or_eq_true,Bool.and_eq_true,decide_eq_true_iff,beq_iff_eq] at this;omega
 have HG:=hid (fun W=>grouped_c x0 x1 x2 x3 x4 y0 y1 y2 p (stz (whl p 0)) W (by
  rcases h.grp with ⟨e1,_⟩ | e2
  · exact .inl e1
  · exact .inr e2) (fun hp=>by rw [qA9]; exact qKF h 0 hp) hwl)
 rw [hwb,← HT.out] at HG
 have hcl:(stz (cmW p.prim p.sec (whl p 0))).size≤2000:=by
  have e1:=whlC_len h 0;rw [qFN h] at e1;rw [qA9]
  split at e1 <;> split at e1 <;> (try split at e1) <;> omega
 have hfl:(stz (46 :: frcN p)).size≤41:=by rw [qA9,List.length_cons,qFM h]; omega
 have HG2:Hid (0 < p.maxFrac→stz (cmW p.prim p.sec (whl p 0))++stz (46 :: frcN p)=stz (cmW p.prim p.sec (whl p 0)++if 0 < p.maxFrac then 46 :: frcN p else [])):=hid (fun hp=>by rw [if_pos hp,qAA])
 have HG3:Hid (¬ 0 < p.maxFrac→stz (cmW p.prim p.sec (whl p 0))=stz (cmW p.prim p.sec (whl p 0)++if 0 < p.maxFrac then 46 :: frcN p else [])):=hid (fun hp=>by rw [if_neg hp,List.append_nil])
 have HE:Hid (stz (prN p 0)=stz (cmW p.prim p.sec (whl p 0)++if 0 < p.maxFrac then 46 :: frcN p else [])++(if p.sci then ⟨#[69]⟩++((if p.plus then ⟨#[43]⟩ else ⟨#[]⟩)++stz (List.replicate p.minExp 48)) else ⟨#[]⟩)):=hid (by
  rw [prN,← List.append_assoc,qAA]
  congr 1
  cases p.sci
  · rfl
  · show stz ([69]++((if p.plus then [43] else [])++List.replicate p.minExp 48))=_
    rw [qAA,qAA]
    congr 1
    cases p.plus <;> rfl)
 have hg2l:(stz (cmW p.prim p.sec (whl p 0)++if 0 < p.maxFrac then 46 :: frcN p else [])).size≤3000:=by
  by_cases hp:0 < p.maxFrac
  · rw [← HG2.out hp,ByteArray.size_append]; omega
  · rw [← HG3.out hp]; omega
 have s1:(stz (List.replicate (p.minInt+p.minFrac - p.inc.length) 48)).size=p.minInt+p.minFrac - p.inc.length:=by rw [qA9,List.length_replicate]
 have s2:(stz (List.replicate p.minSig 64)).size=p.minSig:=by rw [qA9,List.length_replicate]
 have s3:(stz (List.replicate (p.maxSig - p.minSig) 35)).size=p.maxSig - p.minSig:=by rw [qA9,List.length_replicate]
 have s4:(stz (List.replicate (p.maxFrac - p.minFrac) 35)).size=p.maxFrac - p.minFrac:=by rw [qA9,List.length_replicate]
 have s5:(stz (List.replicate p.minExp 48)).size=p.minExp:=by rw [qA9,List.length_replicate]
 have s6:(stz (List.replicate ((leastN p:Int) - ((p.minInt+p.maxSig:Nat):Int)).toNat 35)).size≤81:=by rw [qA9,List.length_replicate]; omega
 obtain ⟨PR,hPR⟩:∃ PR,stz (prN p 0)=PR:=⟨_,rfl⟩
 rw [hPR] at HE ⊢
 clear hPR hwb hwl h hd256
 generalize stz (cmW p.prim p.sec (whl p 0)++if 0 < p.maxFrac then 46 :: frcN p else [])=G2 at *
 generalize stz (cmW p.prim p.sec (whl p 0))=G at *
 generalize stz (46 :: frcN p)=F at *
 generalize stz (whl p 0)=T at *
 have C1:Hid (∀ W,Calls Tryz.prog 170 #[.string ⟨#[48]⟩,.int .i64 ((p.minInt+p.minFrac - p.inc.length:Nat):Int)] W fun e w'=>e=.returned (.string (stz (List.replicate (p.minInt+p.minFrac - p.inc.length) 48)))∧Below W.heap.size W w'):=C1
 have C2:Hid (∀ W,Calls Tryz.prog 170 #[.string ⟨#[64]⟩,.int .i64 (p.minSig:Int)] W fun e w'=>e=.returned (.string (stz (List.replicate p.minSig 64)))∧Below W.heap.size W w'):=C2
 have C3:Hid (∀ W,Calls Tryz.prog 170 #[.string ⟨#[35]⟩,.int .i64 ((p.maxSig - p.minSig:Nat):Int)] W fun e w'=>e=.returned (.string (stz (List.replicate (p.maxSig - p.minSig) 35)))∧Below W.heap.size W w'):=C3
 have C4:Hid (∀ W,Calls Tryz.prog 170 #[.string ⟨#[35]⟩,.int .i64 ((p.maxFrac - p.minFrac:Nat):Int)] W fun e w'=>e=.returned (.string (stz (List.replicate (p.maxFrac - p.minFrac) 35)))∧Below W.heap.size W w'):=C4
 have C5:Hid (∀ W,Calls Tryz.prog 170 #[.string ⟨#[48]⟩,.int .i64 (p.minExp:Int)] W fun e w'=>e=.returned (.string (stz (List.replicate p.minExp 48)))∧Below W.heap.size W w'):=C5
 have C6:Hid (∀ W,Calls Tryz.prog 170 #[.string ⟨#[35]⟩,.int .i64 ((leastN p:Int) - ((p.minInt+p.maxSig:Nat):Int))] W fun e w'=>e=.returned (.string (stz (List.replicate ((leastN p:Int) - ((p.minInt+p.maxSig:Nat):Int)).toNat 35)))∧Below W.heap.size W w'):=C6
 generalize stz (List.replicate ((leastN p:Int) - ((p.minInt+p.maxSig:Nat):Int)).toNat 35)=R6 at *
 generalize stz (List.replicate (p.minInt+p.minFrac - p.inc.length) 48)=R1 at *
 generalize stz (List.replicate p.minSig 64)=R2 at *
 generalize stz (List.replicate (p.maxSig - p.minSig) 35)=R3 at *
 generalize stz (List.replicate (p.maxFrac - p.minFrac) 35)=R4 at *
 generalize stz (List.replicate p.minExp 48)=R5 at *
 generalize stz (dgs p)=D at *
 generalize stz (qCH p)=B at *
 have HX:Hid (GX w (w.alloc (.cells (patV x0 x1 x2 x3 x4 p y0 y1 y2) 24)) w.heap.size (patV x0 x1 x2 x3 x4 p y0 y1 y2)):=hid ⟨qA2 w _,BX.new _ _ _⟩
 have hw1:IntKind.i64.wrap ((p.minInt:Int)+(p.minFrac:Int))=(p.minInt:Int)+(p.minFrac:Int):=IntWalk.i64_in _ (by omega)
 generalize hk1:p.minInt+p.minFrac - p.inc.length=k1 at *
 generalize hk3:p.maxSig - p.minSig=k3 at *
 generalize hk4:p.maxFrac - p.minFrac=k4 at *
 have hw2:IntKind.i64.wrap ((p.minInt:Int)+(p.minFrac:Int) - (p.inc.length:Int))=(k1:Int):=by rw [IntWalk.i64_in _ (by omega)]; omega
 have hw3:IntKind.i64.wrap ((p.maxSig:Int) - (p.minSig:Int))=(k3:Int):=by rw [IntWalk.i64_in _ (by omega)]; omega
 have hw4:IntKind.i64.wrap ((p.maxFrac:Int) - (p.minFrac:Int))=(k4:Int):=by rw [IntWalk.i64_in _ (by omega)]; omega
 have hbl8:p.minInt+p.maxSig≤80:=by omega
 generalize hbl:p.minInt+p.maxSig=bl at *
 have HBL:=hid hbl
 clear hbl
 generalize leastN p=ln at *
 have hw6:IntKind.i64.wrap ((ln:Int) - (bl:Int))=(ln:Int) - (bl:Int):=IntWalk.i64_in _ (by omega)
 have sE:(D.extract 0 p.minInt).size=p.minInt:=by rw [ByteArray.size_extract]; omega
 have sF:(D.extract p.minInt (p.minInt+p.minFrac)).size=p.minFrac:=by rw [ByteArray.size_extract]; omega
 go_enter Tryz.func169,Tryz.ntmps169
 go_upto_region 1 with fail
 generalize w.alloc (.cells (patV x0 x1 x2 x3 x4 p y0 y1 y2) 24)=W at *
 generalize hg:w.heap.size=g at *
 have Hg:=hid hg
 clear hg
 obtain ⟨c5,c6,c7,c8,c9,c10,c13,c14,c15,c16⟩:=HX.out.S.2
 have q1:¬ 9223372036854775807 < R1.size+(stz p.inc).size:=by omega
 refine wp_region_held_drew (S:=(fun W:World=>Hid (GX w W g (patV x0 x1 x2 x3 x4 p y0 y1 y2))∧W.cell? ⟨g,5,none⟩=some (.int .i64 (p.minInt:Int))∧W.cell? ⟨g,6,none⟩=some (.int .i64 (p.maxInt:Int))∧W.cell? ⟨g,7,none⟩=some (.int .i64 (p.minFrac:Int))∧W.cell? ⟨g,8,none⟩=some (.int .i64 (p.maxFrac:Int))∧W.cell? ⟨g,9,none⟩=some (.int .i64 (p.minSig:Int))∧W.cell? ⟨g,10,none⟩=some (.int .i64 (p.maxSig:Int))∧W.cell? ⟨g,13,none⟩=some (.string (stz p.inc))∧W.cell? ⟨g,14,none⟩=some (.bool p.sci)∧W.cell? ⟨g,15,none⟩=some (.int .i64 (p.minExp:Int))∧W.cell? ⟨g,16,none⟩=some (.bool p.plus))) (by kernel_rfl) (GX.S HX.out.drew) (fun hHeld=>?_)
 clear HX c5 c6 c7 c8 c9 c10 c13 c14 c15 c16
 refine' qA8 0 (v:=_) rfl (by kernel_rfl) (by kernel_rfl) (by kernel_rfl) (fun _ _ _ h=>h) rfl ?y1 hHeld ?r1
 case y1=>
  intro w hSw
  try dsimp only at hSw
  go_simp
  try rw [if_neg (by omega)]
  try rw [if_pos (by omega)]
  try with_reducible rfl
 try simp only [pk]
 refine' qA8 1 (v:=_) rfl (by kernel_rfl) (by kernel_rfl) (by kernel_rfl) (fun _ _ _ h=>h) rfl ?y2 hHeld ?r2
 case y2=>
  intro w hSw
  try dsimp only at hSw
  go_simp
  try rw [if_neg (by omega)]
  try rw [if_pos (by omega)]
  try with_reducible rfl
 try simp only [pk]
 refine' qA8 2 (v:=_) rfl (by kernel_rfl) (by kernel_rfl) (by kernel_rfl) (fun _ _ _ h=>h) rfl ?y3 hHeld ?r3
 case y3=>
  intro w hSw
  try dsimp only at hSw
  go_simp
  try rw [if_neg (by omega)]
  try rw [if_pos (by omega)]
  try with_reducible rfl
 try simp only [pk]
 refine' qA8 3 (v:=_) rfl (by kernel_rfl) (by kernel_rfl) (by kernel_rfl) (fun _ _ _ h=>h) rfl ?y4 hHeld ?r4
 case y4=>
  intro w hSw
  try dsimp only at hSw
  go_simp
  try rw [if_neg (by omega)]
  try rw [if_pos (by omega)]
  try with_reducible rfl
 try simp only [pk]
 refine' qA8 4 (v:=_) rfl (by kernel_rfl) (by kernel_rfl) (by kernel_rfl) (fun _ _ _ h=>h) rfl ?y5 hHeld ?r5
 case y5=>
  intro w hSw
  try dsimp only at hSw
  go_simp
  try rw [if_neg (by omega)]
  try rw [if_pos (by omega)]
  try with_reducible rfl
 try simp only [pk]
 refine' qA8 5 (v:=_) rfl (by kernel_rfl) (by kernel_rfl) (by kernel_rfl) (fun _ _ _ h=>h) rfl ?y6 hHeld ?r6
 case y6=>
  intro w hSw
  try dsimp only at hSw
  go_simp
  try rw [if_neg (by omega)]
  try rw [if_pos (by omega)]
  try with_reducible rfl
 try simp only [pk]
 refine' qA8 6 (v:=_) rfl (by kernel_rfl) (by kernel_rfl) (by kernel_rfl) (fun _ _ _ h=>h) rfl ?y7 hHeld ?r7
 case y7=>
  intro w hSw
  try dsimp only at hSw
  go_simp
  try rw [if_neg (by omega)]
  try rw [if_pos (by omega)]
  try with_reducible rfl
 try simp only [pk]
 refine' qA8 7 (v:=_) rfl (by kernel_rfl) (by kernel_rfl) (by kernel_rfl) (fun _ _ _ h=>h) rfl ?y8 hHeld ?r8
 case y8=>
  intro w hSw
  try dsimp only at hSw
  go_simp
  try rw [if_neg (by omega)]
  try rw [if_pos (by omega)]
  try with_reducible rfl
 try simp only [pk]
 refine' qA8 8 (v:=_) rfl (by kernel_rfl) (by kernel_rfl) (by kernel_rfl) (fun _ _ _ h=>h) rfl ?y9 hHeld ?r9
 case y9=>
  intro w hSw
  try dsimp only at hSw
  go_simp
  try rw [if_neg (by omega)]
  try rw [if_pos (by omega)]
  try with_reducible rfl
 try simp only [pk]
 refine' qA8 10 (v:=_) rfl (by kernel_rfl) (by kernel_rfl) (by kernel_rfl) (fun _ _ _ h=>h) rfl ?y10 hHeld ?r10
 case y10=>
  intro w hSw
  try dsimp only at hSw
  go_simp
  try rw [if_neg (by omega)]
  try rw [if_pos (by omega)]
  try with_reducible rfl
 try simp only [pk]
 refine' qA8 11 (v:=_) rfl (by kernel_rfl) (by kernel_rfl) (by kernel_rfl) (fun _ _ _ h=>h) rfl ?y11 hHeld ?r11
 case y11=>
  intro w hSw
  try dsimp only at hSw
  go_simp
  try rw [if_neg (by omega)]
  try rw [if_pos (by omega)]
  try with_reducible rfl
 try simp only [pk]
 refine qp 9 fun K hK=>?_
 go_simp
 refine (C1.out _).mono ?_
 rintro r wx1 ⟨rfl,hbx⟩
 have hHX:=hHeld.1.out.below hbx
 clear hHeld hbx
 go_wp2_with fail
 refine hK.out _ _ (GX.S hHX) (fun hHeld=>?_)
 clear hK K hHX
 try simp only [pk]
 refine' qA8 12 (v:=_) rfl (by kernel_rfl) (by kernel_rfl) (by kernel_rfl) (fun _ _ _ h=>h) rfl ?y12 hHeld ?r12
 case y12=>
  intro w hSw
  try dsimp only at hSw
  go_simp
  try rw [if_neg (by omega)]
  try rw [if_pos (by omega)]
  try with_reducible rfl
 try simp only [pk]
 refine' qA8 13 (v:=_) rfl (by kernel_rfl) (by kernel_rfl) (by kernel_rfl) (fun _ _ _ h=>h) rfl ?y13 hHeld ?r13
 case y13=>
  intro w hSw
  try dsimp only at hSw
  go_simp
  try rw [if_neg (by omega)]
  try rw [if_pos (by omega)]
  try with_reducible rfl
 try simp only [pk]
 refine wpAnyH_done (by kernel_rfl) ?_ _
 obtain ⟨HX,c5,c6,c7,c8,c9,c10,c13,c14,c15,c16⟩:=hHeld
 rw [HD.out]
 clear q1 C1
 go_upto_if 25 with fail
 go_cut [4] (SMid w g (patV x0 x1 x2 x3 x4 p y0 y1 y2) (.string B))
 case first=>
  by_cases hp:0 < p.minSig
  · have g1:(0:Int) < (p.minSig:Int):=by omega
    have q2:¬ 9223372036854775807 < R2.size+R3.size:=by omega
    go_wp2_with fail
    refine wp_region_held_drew (S:=(fun W:World=>Hid (GX w W g (patV x0 x1 x2 x3 x4 p y0 y1 y2))∧W.cell? ⟨g,5,none⟩=some (.int .i64 (p.minInt:Int))∧W.cell? ⟨g,6,none⟩=some (.int .i64 (p.maxInt:Int))∧W.cell? ⟨g,7,none⟩=some (.int .i64 (p.minFrac:Int))∧W.cell? ⟨g,8,none⟩=some (.int .i64 (p.maxFrac:Int))∧W.cell? ⟨g,9,none⟩=some (.int .i64 (p.minSig:Int))∧W.cell? ⟨g,10,none⟩=some (.int .i64 (p.maxSig:Int))∧W.cell? ⟨g,13,none⟩=some (.string (stz p.inc))∧W.cell? ⟨g,14,none⟩=some (.bool p.sci)∧W.cell? ⟨g,15,none⟩=some (.int .i64 (p.minExp:Int))∧W.cell? ⟨g,16,none⟩=some (.bool p.plus))) (by kernel_rfl) (GX.S HX.out.drew) (fun hHeld=>?_);clear HX c5 c6 c7 c8 c9 c10 c13 c14 c15 c16;refine' qA8 0 (v:=_) rfl (by kernel_rfl) (by kernel_rfl) (by kernel_rfl) (fun _ _ _ h=>h) rfl ?y14 hHeld ?r14
    case y14=>
     intro w hSw
     try dsimp only at hSw
     go_simp
     try rw [if_neg (by omega)]
     try rw [if_pos (by omega)]
     try with_reducible rfl
    try simp only [pk]
    refine' qA8 1 (v:=_) rfl (by kernel_rfl) (by kernel_rfl) (by kernel_rfl) (fun _ _ _ h=>h) rfl ?y15 hHeld ?r15
    case y15=>
     intro w hSw
     try dsimp only at hSw
     go_simp
     try rw [if_neg (by omega)]
     try rw [if_pos (by omega)]
     try with_reducible rfl
    try simp only [pk]
    refine' qA8 3 (v:=_) rfl (by kernel_rfl) (by kernel_rfl) (by kernel_rfl) (fun _ _ _ h=>h) rfl ?y16 hHeld ?r16
    case y16=>
     intro w hSw
     try dsimp only at hSw
     go_simp
     try rw [if_neg (by omega)]
     try rw [if_pos (by omega)]
     try with_reducible rfl
    try simp only [pk]
    refine' qA8 4 (v:=_) rfl (by kernel_rfl) (by kernel_rfl) (by kernel_rfl) (fun _ _ _ h=>h) rfl ?y17 hHeld ?r17
    case y17=>
     intro w hSw
     try dsimp only at hSw
     go_simp
     try rw [if_neg (by omega)]
     try rw [if_pos (by omega)]
     try with_reducible rfl
    try simp only [pk]
    refine' qA8 5 (v:=_) rfl (by kernel_rfl) (by kernel_rfl) (by kernel_rfl) (fun _ _ _ h=>h) rfl ?y18 hHeld ?r18
    case y18=>
     intro w hSw
     try dsimp only at hSw
     go_simp
     try rw [if_neg (by omega)]
     try rw [if_pos (by omega)]
     try with_reducible rfl
    try simp only [pk]
    refine' qA8 6 (v:=_) rfl (by kernel_rfl) (by kernel_rfl) (by kernel_rfl) (fun _ _ _ h=>h) rfl ?y19 hHeld ?r19
    case y19=>
     intro w hSw
     try dsimp only at hSw
     go_simp
     try rw [if_neg (by omega)]
     try rw [if_pos (by omega)]
     try with_reducible rfl
    try simp only [pk]
    refine' qA8 7 (v:=_) rfl (by kernel_rfl) (by kernel_rfl) (by kernel_rfl) (fun _ _ _ h=>h) rfl ?y20 hHeld ?r20
    case y20=>
     intro w hSw
     try dsimp only at hSw
     go_simp
     try rw [if_neg (by omega)]
     try rw [if_pos (by omega)]
     try with_reducible rfl
    try simp only [pk]
    refine qp 2 fun K hK=>?_;go_simp;refine (C2.out _).mono ?_;rintro r wx1 ⟨rfl,hbx⟩;have hHX:=hHeld.1.out.below hbx;clear hHeld hbx
    go_wp2_with fail
    refine hK.out _ _ (GX.S hHX) (fun hHeld=>?_);clear hK K hHX
    try simp only [pk]
    refine qp 8 fun K hK=>?_;go_simp;refine (C3.out _).mono ?_;rintro r wx2 ⟨rfl,hbx⟩;have hHX:=hHeld.1.out.below hbx;clear hHeld hbx
    go_wp2_with fail
    refine hK.out _ _ (GX.S hHX) (fun hHeld=>?_);clear hK K hHX
    try simp only [pk]
    refine' qA8 9 (v:=_) rfl (by kernel_rfl) (by kernel_rfl) (by kernel_rfl) (fun _ _ _ h=>h) rfl ?y21 hHeld ?r21
    case y21=>
     intro w hSw
     try dsimp only at hSw
     go_simp
     try rw [if_neg (by omega)]
     try rw [if_pos (by omega)]
     try with_reducible rfl
    try simp only [pk]
    refine' qA8 10 (v:=_) rfl (by kernel_rfl) (by kernel_rfl) (by kernel_rfl) (fun _ _ _ h=>h) rfl ?y22 hHeld ?r22
    case y22=>
     intro w hSw
     try dsimp only at hSw
     go_simp
     try rw [if_neg (by omega)]
     try rw [if_pos (by omega)]
     try with_reducible rfl
    try simp only [pk]
    refine wpAnyH_done (by kernel_rfl) ?_ _;obtain ⟨HX,c5,c6,c7,c8,c9,c10,c13,c14,c15,c16⟩:=hHeld;rw [HB0.out hp]
    go_wp2_with fail
    go_meet
    exact ⟨rfl,HX.out⟩
  · have g1:¬ (0:Int) < (p.minSig:Int):=by omega
    rw [HB1.out (by omega)]
    go_wp2_with fail
    go_meet
    exact ⟨rfl,HX.out⟩
 case rest=>
 obtain ⟨rfl,hx⟩:=hcut
 have HX:=hid hx
 obtain ⟨c5,c6,c7,c8,c9,c10,c13,c14,c15,c16⟩:=hx.S.2
 clear hx C2 C3 HB0 HB1
 have q3:¬ 9223372036854775807 < R6.size+B.size:=by omega
 go_upto_region 5 with fail
 refine wp_region_held_drew (S:=(fun W:World=>Hid (GX w W g (patV x0 x1 x2 x3 x4 p y0 y1 y2))∧W.cell? ⟨g,5,none⟩=some (.int .i64 (p.minInt:Int))∧W.cell? ⟨g,6,none⟩=some (.int .i64 (p.maxInt:Int))∧W.cell? ⟨g,7,none⟩=some (.int .i64 (p.minFrac:Int))∧W.cell? ⟨g,8,none⟩=some (.int .i64 (p.maxFrac:Int))∧W.cell? ⟨g,9,none⟩=some (.int .i64 (p.minSig:Int))∧W.cell? ⟨g,10,none⟩=some (.int .i64 (p.maxSig:Int))∧W.cell? ⟨g,13,none⟩=some (.string (stz p.inc))∧W.cell? ⟨g,14,none⟩=some (.bool p.sci)∧W.cell? ⟨g,15,none⟩=some (.int .i64 (p.minExp:Int))∧W.cell? ⟨g,16,none⟩=some (.bool p.plus))) (by kernel_rfl) (GX.S HX.out.drew) (fun hHeld=>?_)
 clear HX c5 c6 c7 c8 c9 c10 c13 c14 c15 c16
 refine' qA8 0 (v:=_) rfl (by kernel_rfl) (by kernel_rfl) (by kernel_rfl) (fun _ _ _ h=>h) rfl ?y23 hHeld ?r23
 case y23=>
  intro w hSw
  try dsimp only at hSw
  refine qBD 24 (Operand.tmp 1) ?_ g ?_ 24 _ (0,0) _ hSw.1.out.bx Tryz.underlying24 rfl (qA0 ..)
  · rfl
  · rfl
 try simp only [pk]
 refine' qA8 1 (v:=_) rfl (by kernel_rfl) (by kernel_rfl) (by kernel_rfl) (fun _ _ _ h=>h) rfl ?y24 hHeld ?r24
 case y24=>
  intro w hSw
  try dsimp only at hSw
  refine qBD 24 (Operand.tmp 1) ?_ g ?_ 24 _ (0,0) _ hSw.1.out.bx Tryz.underlying24 rfl (qA0 ..)
  · rfl
  · rfl
 try simp only [pk]
 refine' qA8 3 (v:=_) rfl (by kernel_rfl) (by kernel_rfl) (by kernel_rfl) (fun _ _ _ h=>h) rfl ?y25 hHeld ?r25
 case y25=>
  intro w hSw
  try dsimp only at hSw
  go_simp
  try rw [if_neg (by omega)]
  try rw [if_pos (by omega)]
  try with_reducible rfl
 try simp only [pk]
 refine' qA8 4 (v:=_) rfl (by kernel_rfl) (by kernel_rfl) (by kernel_rfl) (fun _ _ _ h=>h) rfl ?y26 hHeld ?r26
 case y26=>
  intro w hSw
  try dsimp only at hSw
  go_simp
  try rw [if_neg (by omega)]
  try rw [if_pos (by omega)]
  try with_reducible rfl
 try simp only [pk]
 refine' qA8 7 (v:=_) rfl (by kernel_rfl) (by kernel_rfl) (by kernel_rfl) (fun _ _ _ h=>h) rfl ?y27 hHeld ?r27
 case y27=>
  intro w hSw
  try dsimp only at hSw
  go_simp
  try rw [if_neg (by omega)]
  try rw [if_pos (by omega)]
  try with_reducible rfl
 try simp only [pk]
 refine qp 2 fun K hK=>?_
 go_simp
 refine (HLE.out _).mono ?_
 rintro r wx1 ⟨rfl,hbx⟩
 have hHX:=hHeld.1.out.below hbx
 clear hHeld hbx
 go_wp2_with fail
 refine hK.out _ _ (GX.S hHX) (fun hHeld=>?_)
 clear hK K hHX
 try simp only [pk]
 refine' qA8 5 (v:=_) rfl (by kernel_rfl) (by kernel_rfl) (by kernel_rfl) (fun _ _ _ h=>h) rfl ?y28 hHeld ?r28
 case y28=>
  intro w hSw
  try dsimp only at hSw
  go_simp
  try rw [if_neg (by omega)]
  try rw [if_pos (by omega)]
  try with_reducible rfl
 try simp only [pk]
 refine qp 6 fun K hK=>?_
 go_simp
 refine (C6.out _).mono ?_
 rintro r wx2 ⟨rfl,hbx⟩
 have hHX:=hHeld.1.out.below hbx
 clear hHeld hbx
 go_wp2_with fail
 refine hK.out _ _ (GX.S hHX) (fun hHeld=>?_)
 clear hK K hHX
 try simp only [pk]
 refine' qA8 8 (v:=_) rfl (by kernel_rfl) (by kernel_rfl) (by kernel_rfl) (fun _ _ _ h=>h) rfl ?y29 hHeld ?r29
 case y29=>
  intro w hSw
  try dsimp only at hSw
  go_simp
  try rw [if_neg (by omega)]
  try rw [if_pos (by omega)]
  try with_reducible rfl
 try simp only [pk]
 refine qp 9 fun K hK=>?_
 go_simp
 refine (HG.out _).mono ?_
 rintro r wx3 ⟨rfl,hbx⟩
 have hHX:=hHeld.1.out.below hbx
 clear hHeld hbx
 go_wp2_with fail
 refine hK.out _ _ (GX.S hHX) (fun hHeld=>?_)
 clear hK K hHX
 try simp only [pk]
 refine' qA8 10 (v:=_) rfl (by kernel_rfl) (by kernel_rfl) (by kernel_rfl) (fun _ _ _ h=>h) rfl ?y30 hHeld ?r30
 case y30=>
  intro w hSw
  try dsimp only at hSw
  go_simp
  try rw [if_neg (by omega)]
  try rw [if_pos (by omega)]
  try with_reducible rfl
 try simp only [pk]
 refine wpAnyH_done (by kernel_rfl) ?_ _
 obtain ⟨HX,c5,c6,c7,c8,c9,c10,c13,c14,c15,c16⟩:=hHeld
 clear q3 C6 HLE HG
 go_upto_if 48 with fail
 go_cut [5] (SMid w g (patV x0 x1 x2 x3 x4 p y0 y1 y2) (.string G2))
 case first=>
  by_cases hp:0 < p.maxFrac
  · have g1:(0:Int) < (p.maxFrac:Int):=by omega
    have z1:(⟨#[46]⟩:ByteArray).size=1:=rfl;have q4:¬ 9223372036854775807 < 1+(D.extract p.minInt (p.minInt+p.minFrac)).size:=by omega
    have q5:¬ 9223372036854775807 < 1+(D.extract p.minInt (p.minInt+p.minFrac)).size+R4.size:=by omega
    have q5':¬ 9223372036854775807 < ((⟨#[46]⟩:ByteArray)++D.extract p.minInt (p.minInt+p.minFrac)).size+R4.size:=by rw [ByteArray.size_append,z1]; omega
    have q6:¬ 9223372036854775807 < G.size+((⟨#[46]⟩:ByteArray)++D.extract p.minInt (p.minInt+p.minFrac)++R4).size:=by rw [ByteArray.size_append,ByteArray.size_append,z1]; omega
    have q6':¬ 9223372036854775807 < G.size+(1+(D.extract p.minInt (p.minInt+p.minFrac)).size+R4.size):=by omega
    clear z1
    go_wp2_with fail
    refine wp_region_held_drew (S:=(fun W:World=>Hid (GX w W g (patV x0 x1 x2 x3 x4 p y0 y1 y2))∧W.cell? ⟨g,5,none⟩=some (.int .i64 (p.minInt:Int))∧W.cell? ⟨g,6,none⟩=some (.int .i64 (p.maxInt:Int))∧W.cell? ⟨g,7,none⟩=some (.int .i64 (p.minFrac:Int))∧W.cell? ⟨g,8,none⟩=some (.int .i64 (p.maxFrac:Int))∧W.cell? ⟨g,9,none⟩=some (.int .i64 (p.minSig:Int))∧W.cell? ⟨g,10,none⟩=some (.int .i64 (p.maxSig:Int))∧W.cell? ⟨g,13,none⟩=some (.string (stz p.inc))∧W.cell? ⟨g,14,none⟩=some (.bool p.sci)∧W.cell? ⟨g,15,none⟩=some (.int .i64 (p.minExp:Int))∧W.cell? ⟨g,16,none⟩=some (.bool p.plus))) (by kernel_rfl) (GX.S HX.out.drew) (fun hHeld=>?_);clear HX c5 c6 c7 c8 c9 c10 c13 c14 c15 c16;refine' qA8 0 (v:=_) rfl (by kernel_rfl) (by kernel_rfl) (by kernel_rfl) (fun _ _ _ h=>h) rfl ?y31 hHeld ?r31
    case y31=>
     intro w hSw
     try dsimp only at hSw
     go_simp
     try rw [if_neg (by omega)]
     try rw [if_pos (by omega)]
     try with_reducible rfl
    try simp only [pk]
    refine' qA8 1 (v:=_) rfl (by kernel_rfl) (by kernel_rfl) (by kernel_rfl) (fun _ _ _ h=>h) rfl ?y32 hHeld ?r32
    case y32=>
     intro w hSw
     try dsimp only at hSw
     go_simp
     try rw [if_neg (by omega)]
     try rw [if_pos (by omega)]
     try with_reducible rfl
    try simp only [pk]
    refine' qA8 2 (v:=_) rfl (by kernel_rfl) (by kernel_rfl) (by kernel_rfl) (fun _ _ _ h=>h) rfl ?y33 hHeld ?r33
    case y33=>
     intro w hSw
     try dsimp only at hSw
     go_simp
     try rw [if_neg (by omega)]
     try rw [if_pos (by omega)]
     try with_reducible rfl
    try simp only [pk]
    refine' qA8 3 (v:=_) rfl (by kernel_rfl) (by kernel_rfl) (by kernel_rfl) (fun _ _ _ h=>h) rfl ?y34 hHeld ?r34
    case y34=>
     intro w hSw
     try dsimp only at hSw
     go_simp
     try rw [if_neg (by omega)]
     try rw [if_pos (by omega)]
     try with_reducible rfl
    try simp only [pk]
    refine' qA8 4 (v:=_) rfl (by kernel_rfl) (by kernel_rfl) (by kernel_rfl) (fun _ _ _ h=>h) rfl ?y35 hHeld ?r35
    case y35=>
     intro w hSw
     try dsimp only at hSw
     go_simp
     try rw [if_neg (by omega)]
     try rw [if_pos (by omega)]
     try with_reducible rfl
    try simp only [pk]
    refine' qA8 5 (v:=_) rfl (by kernel_rfl) (by kernel_rfl) (by kernel_rfl) (fun _ _ _ h=>h) rfl ?y36 hHeld ?r36
    case y36=>
     intro w hSw
     try dsimp only at hSw
     go_simp
     try rw [if_neg (by omega)]
     try rw [if_pos (by omega)]
     try with_reducible rfl
    try simp only [pk]
    refine' qA8 6 (v:=_) rfl (by kernel_rfl) (by kernel_rfl) (by kernel_rfl) (fun _ _ _ h=>h) rfl ?y37 hHeld ?r37
    case y37=>
     intro w hSw
     try dsimp only at hSw
     go_simp
     try rw [if_neg (by omega)]
     try rw [if_pos (by omega)]
     try with_reducible rfl
    try simp only [pk]
    refine' qA8 7 (v:=_) rfl (by kernel_rfl) (by kernel_rfl) (by kernel_rfl) (fun _ _ _ h=>h) rfl ?y38 hHeld ?r38
    case y38=>
     intro w hSw
     try dsimp only at hSw
     go_simp
     try rw [if_neg (by omega)]
     try rw [if_pos (by omega)]
     try with_reducible rfl
    try simp only [pk]
    refine' qA8 8 (v:=_) rfl (by kernel_rfl) (by kernel_rfl) (by kernel_rfl) (fun _ _ _ h=>h) rfl ?y39 hHeld ?r39
    case y39=>
     intro w hSw
     try dsimp only at hSw
     go_simp
     try rw [if_neg (by omega)]
     try rw [if_pos (by omega)]
     try with_reducible rfl
    try simp only [pk]
    refine' qA8 9 (v:=_) rfl (by kernel_rfl) (by kernel_rfl) (by kernel_rfl) (fun _ _ _ h=>h) rfl ?y40 hHeld ?r40
    case y40=>
     intro w hSw
     try dsimp only at hSw
     go_simp
     try rw [if_neg (by omega)]
     try rw [if_pos (by omega)]
     try with_reducible rfl
    try simp only [pk]
    refine' qA8 10 (v:=_) rfl (by kernel_rfl) (by kernel_rfl) (by kernel_rfl) (fun _ _ _ h=>h) rfl ?y41 hHeld ?r41
    case y41=>
     intro w hSw
     try dsimp only at hSw
     go_simp
     try rw [if_neg (by omega)]
     try rw [if_pos (by omega)]
     try with_reducible rfl
    try simp only [pk]
    refine qp 11 fun K hK=>?_;go_simp;refine (C4.out _).mono ?_;rintro r wx1 ⟨rfl,hbx⟩;have hHX:=hHeld.1.out.below hbx;clear hHeld hbx
    go_wp2_with fail
    refine hK.out _ _ (GX.S hHX) (fun hHeld=>?_);clear hK K hHX
    try simp only [pk]
    refine' qA8 12 (v:=_) rfl (by kernel_rfl) (by kernel_rfl) (by kernel_rfl) (fun _ _ _ h=>h) rfl ?y42 hHeld ?r42
    case y42=>
     intro w hSw
     try dsimp only at hSw
     go_simp
     try rw [if_neg (by omega)]
     try rw [if_pos (by omega)]
     try with_reducible rfl
    try simp only [pk]
    refine' qA8 13 (v:=_) rfl (by kernel_rfl) (by kernel_rfl) (by kernel_rfl) (fun _ _ _ h=>h) rfl ?y43 hHeld ?r43
    case y43=>
     intro w hSw
     try dsimp only at hSw
     go_simp
     try rw [if_neg (by omega)]
     try rw [if_pos (by omega)]
     try with_reducible rfl
    try simp only [pk]
    refine' qA8 14 (v:=_) rfl (by kernel_rfl) (by kernel_rfl) (by kernel_rfl) (fun _ _ _ h=>h) rfl ?y44 hHeld ?r44
    case y44=>
     intro w hSw
     try dsimp only at hSw
     go_simp
     try rw [if_neg (by omega)]
     try rw [if_pos (by omega)]
     try with_reducible rfl
    try simp only [pk]
    refine wpAnyH_done (by kernel_rfl) ?_ _;obtain ⟨HX,c5,c6,c7,c8,c9,c10,c13,c14,c15,c16⟩:=hHeld;rw [HFR.out,HG2.out hp]
    go_wp2_with fail
    go_meet
    exact ⟨rfl,HX.out⟩
  · have g1:¬ (0:Int) < (p.maxFrac:Int):=by omega
    rw [HG3.out hp]
    go_wp2_with fail
    go_meet
    exact ⟨rfl,HX.out⟩
 case rest=>
 obtain ⟨rfl,hx⟩:=hcut
 have HX:=hid hx
 obtain ⟨c5,c6,c7,c8,c9,c10,c13,c14,c15,c16⟩:=hx.S.2
 clear hx C4 HFR HG2 HG3
 have z1:(⟨#[69]⟩:ByteArray).size=1:=rfl
 have z2:(⟨#[43]⟩:ByteArray).size=1:=rfl
 rcases hs:p.sci with _ | _
 · rw [hs] at c14 HE
   go_wp2
   go_ret
   have e:=HE.out;simp only [Bool.false_eq_true,if_false] at e;rw [e];refine ⟨?_,Hg.out ▸ HX.out.b⟩;rw [← qI2 G2,show (⟨#[]⟩:ByteArray)=stz [] from rfl,← qAA,List.append_nil];rfl
 · rw [hs] at c14 HE
   have e:=HE.out;simp only [if_true] at e
   rcases hp:p.plus with _ | _
   · rw [hp] at c16 e
     simp only [Bool.false_eq_true,if_false] at e;have e2:PR=G2++⟨#[69]⟩++R5:=by
      rw [e,ByteArray.append_assoc]
      congr 1
     have He:=hid e2;clear e e2 HE hs hp;have q7:¬ 9223372036854775807 < G2.size+1:=by omega
     have q8:¬ 9223372036854775807 < G2.size+1+R5.size:=by omega
     have q9:¬ 9223372036854775807 < G2.size+1+p.minExp:=by omega
     have q8':¬ 9223372036854775807 < (G2++⟨#[69]⟩).size+R5.size:=by rw [ByteArray.size_append,z1]; omega
     clear z1 z2
     go_wp2_with (go_at_call 170; refine (C5.out _).mono ?_; rintro e wk ⟨rfl,hbx⟩; have HX:=hid (HX.out.below hbx); clear hbx)
     go_ret
     rw [He.out];exact ⟨rfl,Hg.out ▸ HX.out.b⟩
   · rw [hp] at c16 e
     simp only [if_true] at e;have e2:PR=G2++⟨#[69]⟩++⟨#[43]⟩++R5:=by rw [e,ByteArray.append_assoc,ByteArray.append_assoc]
     have He:=hid e2;clear e e2 HE hs hp;have q7:¬ 9223372036854775807 < G2.size+1:=by omega
     have q7a:¬ 9223372036854775807 < G2.size+1+1:=by omega
     have q7b:¬ 9223372036854775807 < (G2++⟨#[69]⟩).size+1:=by rw [ByteArray.size_append,z1]; omega
     have q8:¬ 9223372036854775807 < G2.size+1+1+R5.size:=by omega
     have q9:¬ 9223372036854775807 < G2.size+1+1+p.minExp:=by omega
     have q8':¬ 9223372036854775807 < (G2++⟨#[69]⟩++⟨#[43]⟩).size+R5.size:=by rw [ByteArray.size_append,ByteArray.size_append,z1,z2]; omega
     clear z1 z2
     go_wp2_with (go_at_call 170; refine (C5.out _).mono ?_; rintro e wk ⟨rfl,hbx⟩; have HX:=hid (HX.out.below hbx); clear hbx)
     go_ret
     rw [He.out];exact ⟨rfl,Hg.out ▸ HX.out.b⟩
end Go.Proofs.YtnoeonaajefajaaGreatDoor
