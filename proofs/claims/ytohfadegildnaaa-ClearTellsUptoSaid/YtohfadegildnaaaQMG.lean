import Derived.Deep.DeepCutAuto
import Derived.Test.YtohfadegildnaaaQRW
import Derived.Test.YtohfadegildnaaaQMC
import Derived.Test.YtohfadegildnaaaQSB
import Derived.Test.YtohfadegildnaaaQMA
set_option linter.all false
set_option maxRecDepth 100000
set_option linter.unusedVariables false
namespace Go.Proofs.Ytohfadegildnaaa
open Go.RowKit
structure RX (w0 W:World) (g:Nat) (q:Array Value):Prop where
 b:Below w0.heap.size w0 W
 br:BX W g patZ 26
 bp:BX W (g+1) q 26
 hz:w0.heap.size=g
section
variable {w0 W W':World} {g:Nat} {q:Array Value}
theorem RX.keep (x:RX w0 W g q) (hb:Below (g+2) W W'):RX w0 W' g q:=
 ⟨x.b.trans (hb.mono (by have:=x.hz; omega)),x.br.below hb (by omega),x.bp.below hb (by omega),x.hz⟩
theorem RX.below (x:RX w0 W g q) (hb:Below W.heap.size W W'):RX w0 W' g q:=x.keep (hb.mono x.bp.lt)
theorem RX.drewN (x:RX w0 W g q) (n:Nat):RX w0 (W.drewN n) g q:=x.below ((Below.refl _ _).of_drewN n)
theorem RX.set (x:RX w0 W g q) (j:Nat) (v:Value) (q':Array Value) (e:q.setIfInBounds j v=q'):RX w0 (W.setCell ⟨g+1,j,none⟩ v) g q':=
 ⟨x.b.setCell (p:=⟨g+1,j,none⟩) (by have:=x.hz; show _≤g+1; omega) v,(heap_setCell_other W ⟨g+1,j,none⟩ g v (by show g≠g+1; omega)).trans x.br,e ▸ heap_setCell_same W (g+1) j q 26 v x.bp,x.hz⟩
theorem RX.new (w0:World):RX w0 (((w0.alloc (.cells patZ 26)).alloc (.cells patZ 26)).setRow (w0.heap.size+1) patZ) w0.heap.size patZ:=by
 have h1:BX ((w0.alloc (.cells patZ 26)).alloc (.cells patZ 26)) w0.heap.size patZ 26:=(BX.new w0 patZ _).alloc _
 have h2:BX ((w0.alloc (.cells patZ 26)).alloc (.cells patZ 26)) (w0.heap.size+1) patZ 26:=by
  have:=BX.new (w0.alloc (.cells patZ 26)) patZ 26
  simpa using this
 exact ⟨(((Below.refl _ _).alloc (Nat.le_refl _) _).alloc (by simp) _).setRow (by omega) _,(setRow_other _ _ _ _ (by omega)).trans h1,setRow_heap _ _ patZ _ _ _ h2,rfl⟩
end
def VMid (W:World) (v u:Value) (W':World):Prop:=u=v∧W'=W
def sndS:Code→Code
 | .seq _ c=>c
 | c=>c
noncomputable def qB6:Code:=Try.f14.body.getD .skip
noncomputable def qB7:Code:=sndS qB6
noncomputable def qB8:Code:=sndS qB7
noncomputable def qB2:Code:=sndS qB8
noncomputable def qB4:Code:=sndS qB2
noncomputable def qB9:Code:=sndS qB4
noncomputable def qBJ:Code:=sndS qB9
noncomputable def qBN:Code:=sndS qBJ
noncomputable def qBW:Code:=sndS qBN
noncomputable def qC4:Code:=sndS qBW
noncomputable def qBC:Code:=sndS qC4
noncomputable def qBM:Code:=sndS qBC
noncomputable def qBX:Code:=sndS qBM
noncomputable def qCA:Code:=sndS qBX
noncomputable def qCQ:Code:=sndS qCA
noncomputable def qD9:Code:=sndS qCQ
noncomputable def qDZ:Code:=sndS qD9
noncomputable def qDA:Code:=sndS qDZ
noncomputable def qGO:Code:=sndS qDA
def vl (q:NF) (k:Nat):Nat:=if k=0 then q.minInt else if k=1 then q.maxInt else if k=2 then q.maxFrac else if k=3 then q.maxSig else if k=4 then q.prim else if k=5 then q.sec else q.inc.length
theorem vl_all {q:NF} (h:∀ k,k < 7→vl q k≤40):bigN q=false:=by
 have h0:=h 0 (by omega); have h1:=h 1 (by omega); have h2:=h 2 (by omega); have h3:=h 3 (by omega); have h4:=h 4 (by omega); have h5:=h 5 (by omega); have h6:=h 6 (by omega)
 simp only [vl] at h0 h1 h2 h3 h4 h5 h6
 simp only [bigN,Bool.or_eq_false_iff,decide_eq_false_iff_not]
 simp at h0 h1 h2 h3 h4 h5 h6
 omega
theorem vl_one {q:NF} {k:Nat} (hk:k < 7) (h:40 < vl q k):bigN q=true:=by
 simp only [bigN,Bool.or_eq_true,decide_eq_true_iff]
 have:k=0∨k=1∨k=2∨k=3∨k=4∨k=5∨k=6:=by omega
 rcases this with rfl | rfl | rfl | rfl | rfl | rfl | rfl <;> simp [vl] at h <;> omega
theorem vl_at (W:World) (q:NF) (T:TypeId) {k:Nat} (hk:k < 7):(W.alloc (.cells #[.int .i64 (q.minInt:Int),.int .i64 (q.maxInt:Int),.int .i64 (q.maxFrac:Int),.int .i64 (q.maxSig:Int),.int .i64 (q.prim:Int),.int .i64 (q.sec:Int),.int .i64 (q.inc.length:Int)] T)).cell? ⟨W.heap.size,k,none⟩=some (.int .i64 (vl q k:Nat)):=by
 have:k=0∨k=1∨k=2∨k=3∨k=4∨k=5∨k=6:=by omega
 rcases this with rfl | rfl | rfl | rfl | rfl | rfl | rfl <;> rw [cell_of_row _ W.heap.size _ _ _ _ (heap_alloc_new W _)] <;> rfl
def is6 (xs:List Nat):List Value:=xs.map fun (x:Nat)=>Value.int .i64 (x:Int)
theorem is6_get (xs:List Nat) (k:Nat):(is6 xs)[k]? = (xs[k]?).map fun (x:Nat)=>Value.int .i64 (x:Int):=by simp [is6]
theorem is6_append (xs ys:List Nat):is6 (xs++ys)=is6 xs++is6 ys:=by simp [is6]
theorem int_info:(Try.prog.info? 3).map (fun i=>(i.zero,i.size,i.bytes))=some (some (.int .i64 0),1,8):=by kernel_rfl
def OwnN (w:World) (base:Nat) (v:Value) (xs:List Nat):Prop:=w.ownsRow base 3 1 v xs.length (is6 xs)
theorem ownN_nil (w:World) (base:Nat):OwnN w base (.slice none 0 0) []:=World.ownsRow_nil _ _ _ _
theorem OwnN.form {w:World} {base:Nat} {v:Value} {xs:List Nat} (h:OwnN w base v xs):∃ A c,v=.slice A xs.length c:=qAN h
theorem OwnN.at_ {w:World} {base m c:Nat} {A:Option Addr} {xs:List Nat} (h:OwnN w base (.slice A m c) xs) (hm:0 < m):m=xs.length∧∃ ad,A=some ad∧∀ k,k < m→w.cell? (ad.add k)=some (.int .i64 ((xs.getD k 0:Nat):Int)):=by
 obtain ⟨A',c',e⟩:=h.form
 cases e
 refine ⟨rfl,?_⟩
 have hR:=qAZ.of_own h
 obtain ⟨ad,rfl,_,hc⟩:=hR.2 hm
 refine ⟨ad,rfl,fun k hk=>hc k _ ?_⟩
 rw [is6_get,List.getElem?_eq_getElem hk]
 simp [List.getD,List.getElem?_eq_getElem hk]
theorem qDR {W w0:World} {ops:Array Oper} {rest:List Oper} {o:Oper} {a:Act} {Q:Exit→Act→World→Prop} (hgd:o.guard=none) (s x:Operand) (t:TypeId)
 (ho:o.op=.call { callee:=.builtin .append,args:=#[s,x],argTypes:=#[t,t] }) (ht:Try.prog.underlying t=some (.slice 3))
 (base:Nat) (v:Value) (xs:List Nat) (hs:a.eval s=v) (hown:OwnN W base v xs) (E:Int)
 (hx:a.eval x=.slice (some ⟨W.heap.size,0,none⟩) 1 1) (X:Nat) (hE:E=(X:Int)) (hk:xs.length≤1000000000) (hb:Below base w0 W) (hbase:base≤W.heap.size)
 (h:∀ v' w',Hid (OwnN w' base v' (xs++[X]))→Hid (Below base w0 w')→wpList Try.prog ops Q rest (a.put o.dst v') w') :
 wpList Try.prog ops Q (o :: rest) a (W.alloc (.cells #[.int .i64 E] 3)):=by
 obtain ⟨i0,hi,hz0,hz1,hz2⟩:=info_parts int_info
 subst hE
 refine wpList_append_own _ hgd s x t ho base 3 i0 (.int .i64 0) 1 8 ht hi hz0 hz1 hz2 rfl (by decide) v _ _ hs (World.ownsRow.alloc hown _) ⟨W.heap.size,0,none⟩ 1 1 [.int .i64 (X:Int)] hx rfl (qHA W _ _) ?_ ?_ ?_ ?_ ?_
 · simp [Value.oneCell']
 · unfold maxLen; omega
 · omega
 · simp; omega
 · intro v' w' h1 h2 _
   refine h v' w' ?_ ?_
   · show w'.ownsRow _ _ _ _ _ _
     rw [is6_append,List.length_append]; exact h1
   · refine (hb.alloc hbase _).grown h2 (by simp; omega) fun j hj=>?_
     exact (World.ownsRow.lt hown j hj).1
def splR (l:List Nat) (i n:Nat):List Nat:=if i≤l.length then spl (l.drop i) n else []
theorem splR_zero (l:List Nat):splR l 0 0=spl l 0:=by rw [splR,if_pos (Nat.zero_le _),List.drop_zero]
theorem splR_more {s:ByteArray} {i n:Nat} (h:i < s.size) (hc:s[i].toNat≠44):splR (bts s) i n=splR (bts s) (i+1) (n+1):=by
 rw [splR,splR,qA0,if_pos (by omega),if_pos (by omega),qCP h,spl,if_neg hc]
theorem splR_comma {s:ByteArray} {i n:Nat} (h:i < s.size) (hc:s[i].toNat=44):splR (bts s) i n=n :: splR (bts s) (i+1) 0:=by
 rw [splR,splR,qA0,if_pos (by omega),if_pos (by omega),qCP h,spl,if_pos hc]
theorem splR_end (s:ByteArray) (n:Nat):splR (bts s) s.size n=n :: splR (bts s) (s.size+1) 0:=by
 rw [splR,splR,qA0,if_pos (Nat.le_refl _),if_neg (by omega),List.drop_of_length_le (by rw [qA0]; exact Nat.le_refl _),spl]
theorem splR_out (s:ByteArray):splR (bts s) (s.size+1) 0=[]:=by rw [splR,qA0,if_neg (by omega)]
theorem pln_snoc {s:ByteArray} {i:Nat} (h:i < s.size):pln ((bts s).take (i+1))=pln ((bts s).take i)++(if s[i].toNat=44 then [] else [s[i].toNat]):=by
 rw [qAH h,pln,List.filter_append,pln]
 congr 1
 by_cases e:s[i].toNat=44 <;> simp [e]
def FMid (W:World) (p:Prop) (W':World):Prop:=W'=W∧p
def Mid17 (w0:World) (g:Nat) (l:List Nat) (sc:Bool) (m:Nat) (t:ByteArray) (W:World):Prop:=∃ q:NF,RX w0 W g (patN q)∧numZ l=finN (sc && (decide (1 < m) || (decide (0 < q.minSig) && decide ((bts t).head? = some 35)))) q∧(0 < q.minSig→0 < t.size)∧(stz q.inc).size=q.inc.length
theorem ext1_bts {s:ByteArray} {i:Nat} (h:i < s.size):bts (s.extract i (i+1))=[s[i].toNat]:=by
 rw [qCO,qAH h,List.drop_append_of_le_length (by rw [List.length_take,qA0]; omega),List.drop_eq_nil_of_le (by rw [List.length_take,qA0]; omega),List.nil_append]
theorem secZ_lo {sz:List Nat} {k:Nat} (h:sz.length=k+2) (hk:1≤k):secZ sz=sz.getD k 0:=by
 rw [secZ,if_pos (by omega),show sz.length - 2=k by omega]
theorem primZ_lo {sz:List Nat} {k:Nat} (h:sz.length=k+1) (hk:1≤k):qAJ sz=sz.getD k 0:=by
 rw [qAJ,if_pos (by omega),show sz.length - 1=k by omega]
theorem OwnN.set {w:World} {base:Nat} {v u:Value} {xs:List Nat} {b j:Nat} (h:OwnN w base v xs) (hb:b < base):OwnN (w.setCell ⟨b,j,none⟩ u) base v xs:=by
 refine ⟨h.1,?_⟩
 rcases h.2 with h' | ⟨g',cap',cur,h1,h2,h3,h4⟩
 · exact .inl h'
 · refine .inr ⟨g',cap',cur,h1,h2,?_,h4⟩
   rw [Below.heap_setCell _ _ _ g' (Nat.ne_of_gt (Nat.lt_of_lt_of_le hb h2))];exact h3
def N17:Prop:=∀ (l:List Nat) (w W:World) (g m c:Nat) (A:Option Addr) (sc point:Bool) (fr t al:ByteArray) (me:Nat) (pl:Bool) (sz:List Nat) (HX:Hid (RX w W g (patN { sci:=sc,minExp:=me,plus:=pl,prim:=qAJ sz,sec:=secZ sz }))) (hm:sz.length=m) (HN0:Hid (numZ l=numP (bts t) (bts fr) point sz sc me pl)) (HAL:Hid (bts al=bts t++bts fr)) (hpf:point=false→fr.size=0) (hts:t.size≤100000000) (hfs:fr.size≤100000000) (has:al.size≤200000000) (T:List Value),Rs 321 [(2,.pointer (some ⟨g,0,none⟩)),(4,.pointer (some ⟨g+1,0,none⟩)),(7,.bool sc),(11,.string fr),(12,.bool point),(13,.slice A m c),(14,.string t),(18,.string al)] T→(qDA).wp Try.prog (bodyPost Try.prog Try.f14 (fun e w'=>e=.returned (.tuple #[.agg (patN (numZ l).1),.int .i64 (((numZ l).2:Nat):Int)])∧Below w.heap.size w w')) ⟨T.toArray,[]⟩ W
def N16:Prop:=∀ (l:List Nat) (w W:World) (g:Nat) (m c:Nat) (A:Option Addr) (sc point:Bool) (fr t al:ByteArray) (me:Nat) (pl:Bool) (sz:List Nat) (HX:Hid (RX w W g (patN { sci:=sc,minExp:=me,plus:=pl,prim:=qAJ sz,sec:=secZ sz }))) (hm:sz.length=m) (HN0:Hid (numZ l=if (bts al).isEmpty then ({},4) else numP (bts t) (bts fr) point sz sc me pl)) (HAL:Hid (bts al=bts t++bts fr)) (hpf:point=false→fr.size=0) (hts:t.size≤100000000) (hfs:fr.size≤100000000) (has:al.size≤200000000) (T:List Value),Rs 321 [(2,.pointer (some ⟨g,0,none⟩)),(4,.pointer (some ⟨g+1,0,none⟩)),(7,.bool sc),(11,.string fr),(12,.bool point),(13,.slice A m c),(14,.string t),(18,.string al)] T→(qDZ).wp Try.prog (bodyPost Try.prog Try.f14 (fun e w'=>e=.returned (.tuple #[.agg (patN (numZ l).1),.int .i64 (((numZ l).2:Nat):Int)])∧Below w.heap.size w w')) ⟨T.toArray,[]⟩ W
def N15:Prop:=∀ (l:List Nat) (w W:World) (g:Nat) (m c:Nat) (A:Option Addr) (sc point:Bool) (fr t:ByteArray) (me:Nat) (pl:Bool) (sz:List Nat) (HX:Hid (RX w W g (patN { sci:=sc,minExp:=me,plus:=pl,prim:=qAJ sz,sec:=secZ sz }))) (hm:sz.length=m) (HN0:Hid (numZ l=if (bts t++bts fr).isEmpty then ({},4) else numP (bts t) (bts fr) point sz sc me pl)) (hpf:point=false→fr.size=0) (hts:t.size≤100000000) (hfs:fr.size≤100000000) (T:List Value),Rs 321 [(2,.pointer (some ⟨g,0,none⟩)),(4,.pointer (some ⟨g+1,0,none⟩)),(7,.bool sc),(11,.string fr),(12,.bool point),(13,.slice A m c),(14,.string t)] T→(qD9).wp Try.prog (bodyPost Try.prog Try.f14 (fun e w'=>e=.returned (.tuple #[.agg (patN (numZ l).1),.int .i64 (((numZ l).2:Nat):Int)])∧Below w.heap.size w w')) ⟨T.toArray,[]⟩ W
def N14:Prop:=∀ (l:List Nat) (w W:World) (g:Nat) (m c:Nat) (A:Option Addr) (sc point:Bool) (fr t:ByteArray) (me:Nat) (pl:Bool) (sz:List Nat) (HX:Hid (RX w W g (patN { sci:=sc,minExp:=me,plus:=pl,prim:=qAJ sz,sec:=qAJ sz }))) (hm:sz.length=m) (hmx:m≤1000000000) (HO:Hid (OwnN W (g+2) (.slice A m c) sz)) (HN0:Hid (numZ l=if (bts t++bts fr).isEmpty then ({},4) else numP (bts t) (bts fr) point sz sc me pl)) (hpf:point=false→fr.size=0) (hts:t.size≤100000000) (hfs:fr.size≤100000000) (T:List Value),Rs 321 [(2,.pointer (some ⟨g,0,none⟩)),(4,.pointer (some ⟨g+1,0,none⟩)),(7,.bool sc),(11,.string fr),(12,.bool point),(13,.slice A m c),(14,.string t)] T→(qCQ).wp Try.prog (bodyPost Try.prog Try.f14 (fun e w'=>e=.returned (.tuple #[.agg (patN (numZ l).1),.int .i64 (((numZ l).2:Nat):Int)])∧Below w.heap.size w w')) ⟨T.toArray,[]⟩ W
def N13:Prop:=∀ (l:List Nat) (w W:World) (g:Nat) (m c:Nat) (A:Option Addr) (sc point:Bool) (fr t:ByteArray) (me:Nat) (pl:Bool) (sz:List Nat) (HX:Hid (RX w W g (patN { sci:=sc,minExp:=me,plus:=pl }))) (hm:sz.length=m) (hmx:m≤1000000000) (HO:Hid (OwnN W (g+2) (.slice A m c) sz)) (HN0:Hid (numZ l=if (bts t++bts fr).isEmpty then ({},4) else numP (bts t) (bts fr) point sz sc me pl)) (hpf:point=false→fr.size=0) (hts:t.size≤100000000) (hfs:fr.size≤100000000) (T:List Value),Rs 321 [(2,.pointer (some ⟨g,0,none⟩)),(4,.pointer (some ⟨g+1,0,none⟩)),(7,.bool sc),(11,.string fr),(12,.bool point),(13,.slice A m c),(14,.string t)] T→(qCA).wp Try.prog (bodyPost Try.prog Try.f14 (fun e w'=>e=.returned (.tuple #[.agg (patN (numZ l).1),.int .i64 (((numZ l).2:Nat):Int)])∧Below w.heap.size w w')) ⟨T.toArray,[]⟩ W
def N12:Prop:=∀ (l:List Nat) (w W:World) (g:Nat) (m c:Nat) (A:Option Addr) (sc point:Bool) (fr t:ByteArray) (me:Nat) (pl:Bool) (sz:List Nat) (HX:Hid (RX w W g (patN { sci:=sc,minExp:=me,plus:=pl }))) (hm:sz.length=m) (hm1:1≤m) (hmx:m≤1000000000) (HO:Hid (OwnN W (g+2) (.slice A m c) sz)) (HN0:Hid (numZ l=if decide (1 < sz.length) && sz.any (· == 0) then ({},5) else if (bts t++bts fr).isEmpty then ({},4) else numP (bts t) (bts fr) point sz sc me pl)) (hpf:point=false→fr.size=0) (hts:t.size≤100000000) (hfs:fr.size≤100000000) (T:List Value),Rs 321 [(2,.pointer (some ⟨g,0,none⟩)),(4,.pointer (some ⟨g+1,0,none⟩)),(7,.bool sc),(11,.string fr),(12,.bool point),(13,.slice A m c),(14,.string t)] T→(qBX).wp Try.prog (bodyPost Try.prog Try.f14 (fun e w'=>e=.returned (.tuple #[.agg (patN (numZ l).1),.int .i64 (((numZ l).2:Nat):Int)])∧Below w.heap.size w w')) ⟨T.toArray,[]⟩ W
def N11:Prop:=∀ (l:List Nat) (w W:World) (g:Nat) (sc point:Bool) (wh fr:ByteArray) (me:Nat) (pl:Bool) (HX:Hid (RX w W g (patN { sci:=sc,minExp:=me,plus:=pl }))) (HN0:Hid (numZ l=if decide (1 < (spl (bts wh) 0).length) && (spl (bts wh) 0).any (· == 0) then ({},5) else if (pln (bts wh)++bts fr).isEmpty then ({},4) else numP (pln (bts wh)) (bts fr) point (spl (bts wh) 0) sc me pl)) (hpf:point=false→fr.size=0) (hws:wh.size≤100000000) (hfs:fr.size≤100000000) (T:List Value),Rs 321 [(2,.pointer (some ⟨g,0,none⟩)),(4,.pointer (some ⟨g+1,0,none⟩)),(7,.bool sc),(10,.string wh),(11,.string fr),(12,.bool point),(13,.slice none 0 0),(14,.string ⟨#[]⟩),(15,.int .i64 0)] T→(qBM).wp Try.prog (bodyPost Try.prog Try.f14 (fun e w'=>e=.returned (.tuple #[.agg (patN (numZ l).1),.int .i64 (((numZ l).2:Nat):Int)])∧Below w.heap.size w w')) ⟨T.toArray,[]⟩ W
def N10:Prop:=∀ (l:List Nat) (w W:World) (g:Nat) (sc point:Bool) (wh fr:ByteArray) (me:Nat) (pl:Bool) (HX:Hid (RX w W g (patN { sci:=sc,minExp:=me,plus:=pl }))) (HN0:Hid (numZ l=if decide (1 < (spl (bts wh) 0).length) && (spl (bts wh) 0).any (· == 0) then ({},5) else if (pln (bts wh)++bts fr).isEmpty then ({},4) else numP (pln (bts wh)) (bts fr) point (spl (bts wh) 0) sc me pl)) (hpf:point=false→fr.size=0) (hws:wh.size≤100000000) (hfs:fr.size≤100000000) (T:List Value),Rs 321 [(2,.pointer (some ⟨g,0,none⟩)),(4,.pointer (some ⟨g+1,0,none⟩)),(7,.bool sc),(10,.string wh),(11,.string fr),(12,.bool point),(13,.slice none 0 0),(14,.string ⟨#[]⟩)] T→(qBC).wp Try.prog (bodyPost Try.prog Try.f14 (fun e w'=>e=.returned (.tuple #[.agg (patN (numZ l).1),.int .i64 (((numZ l).2:Nat):Int)])∧Below w.heap.size w w')) ⟨T.toArray,[]⟩ W
def N9:Prop:=∀ (l:List Nat) (w W:World) (g:Nat) (sc point:Bool) (wh fr:ByteArray) (me:Nat) (pl:Bool) (HX:Hid (RX w W g (patN { sci:=sc,minExp:=me,plus:=pl }))) (HN0:Hid (numZ l=if decide (1 < (spl (bts wh) 0).length) && (spl (bts wh) 0).any (· == 0) then ({},5) else if (pln (bts wh)++bts fr).isEmpty then ({},4) else numP (pln (bts wh)) (bts fr) point (spl (bts wh) 0) sc me pl)) (hpf:point=false→fr.size=0) (hws:wh.size≤100000000) (hfs:fr.size≤100000000) (T:List Value),Rs 321 [(2,.pointer (some ⟨g,0,none⟩)),(4,.pointer (some ⟨g+1,0,none⟩)),(7,.bool sc),(10,.string wh),(11,.string fr),(12,.bool point),(13,.slice none 0 0)] T→(qC4).wp Try.prog (bodyPost Try.prog Try.f14 (fun e w'=>e=.returned (.tuple #[.agg (patN (numZ l).1),.int .i64 (((numZ l).2:Nat):Int)])∧Below w.heap.size w w')) ⟨T.toArray,[]⟩ W
def N8:Prop:=∀ (l:List Nat) (w W:World) (g:Nat) (sc point:Bool) (wh fr:ByteArray) (me:Nat) (pl:Bool) (HX:Hid (RX w W g (patN { sci:=sc,minExp:=me,plus:=pl }))) (HN0:Hid (numZ l=if decide (1 < (spl (bts wh) 0).length) && (spl (bts wh) 0).any (· == 0) then ({},5) else if (pln (bts wh)++bts fr).isEmpty then ({},4) else numP (pln (bts wh)) (bts fr) point (spl (bts wh) 0) sc me pl)) (hpf:point=false→fr.size=0) (hws:wh.size≤100000000) (hfs:fr.size≤100000000) (T:List Value),Rs 321 [(2,.pointer (some ⟨g,0,none⟩)),(4,.pointer (some ⟨g+1,0,none⟩)),(7,.bool sc),(10,.string wh),(11,.string fr),(12,.bool point)] T→(qBW).wp Try.prog (bodyPost Try.prog Try.f14 (fun e w'=>e=.returned (.tuple #[.agg (patN (numZ l).1),.int .i64 (((numZ l).2:Nat):Int)])∧Below w.heap.size w w')) ⟨T.toArray,[]⟩ W
def N7:Prop:=∀ (l:List Nat) (w W:World) (g:Nat) (sc point:Bool) (wh fr:ByteArray) (me:Nat) (pl:Bool) (HX:Hid (RX w W g (patN { sci:=sc,minExp:=me,plus:=pl }))) (HN0:Hid (numZ l=if (bts fr).any (· == 44) then ({},5) else if decide (1 < (spl (bts wh) 0).length) && (spl (bts wh) 0).any (· == 0) then ({},5) else if (pln (bts wh)++bts fr).isEmpty then ({},4) else numP (pln (bts wh)) (bts fr) point (spl (bts wh) 0) sc me pl)) (hpf:point=false→fr.size=0) (hws:wh.size≤100000000) (hfs:fr.size≤100000000) (T:List Value),Rs 321 [(2,.pointer (some ⟨g,0,none⟩)),(4,.pointer (some ⟨g+1,0,none⟩)),(7,.bool sc),(10,.string wh),(11,.string fr),(12,.bool point)] T→(qBN).wp Try.prog (bodyPost Try.prog Try.f14 (fun e w'=>e=.returned (.tuple #[.agg (patN (numZ l).1),.int .i64 (((numZ l).2:Nat):Int)])∧Below w.heap.size w w')) ⟨T.toArray,[]⟩ W
def N6:Prop:=∀ (l:List Nat) (w W:World) (g:Nat) (sc point:Bool) (wh fr:ByteArray) (me:Nat) (pl:Bool) (HX:Hid (RX w W g (patN { sci:=sc,minExp:=me,plus:=pl }))) (HN0:Hid (numZ l=if (bts fr).any (· == 46) || (point && (bts fr).isEmpty) then ({},4) else if (bts fr).any (· == 44) then ({},5) else if decide (1 < (spl (bts wh) 0).length) && (spl (bts wh) 0).any (· == 0) then ({},5) else if (pln (bts wh)++bts fr).isEmpty then ({},4) else numP (pln (bts wh)) (bts fr) point (spl (bts wh) 0) sc me pl)) (hpf:point=false→fr.size=0) (hws:wh.size≤100000000) (hfs:fr.size≤100000000) (T:List Value),Rs 321 [(2,.pointer (some ⟨g,0,none⟩)),(4,.pointer (some ⟨g+1,0,none⟩)),(7,.bool sc),(10,.string wh),(11,.string fr),(12,.bool point)] T→(qBJ).wp Try.prog (bodyPost Try.prog Try.f14 (fun e w'=>e=.returned (.tuple #[.agg (patN (numZ l).1),.int .i64 (((numZ l).2:Nat):Int)])∧Below w.heap.size w w')) ⟨T.toArray,[]⟩ W
def N5:Prop:=∀ (l:List Nat) (w W:World) (g:Nat) (sc:Bool) (bo:ByteArray) (me:Nat) (pl:Bool) (HX:Hid (RX w W g (patN { sci:=sc,minExp:=me,plus:=pl }))) (HN0:Hid (numZ l=numW (upA 46 (bts bo)) (dnA 46 (bts bo)) ((bts bo).any (· == 46)) sc me pl)) (hbs:bo.size≤100000000) (T:List Value),Rs 321 [(2,.pointer (some ⟨g,0,none⟩)),(4,.pointer (some ⟨g+1,0,none⟩)),(5,.string bo),(7,.bool sc)] T→(qB9).wp Try.prog (bodyPost Try.prog Try.f14 (fun e w'=>e=.returned (.tuple #[.agg (patN (numZ l).1),.int .i64 (((numZ l).2:Nat):Int)])∧Below w.heap.size w w')) ⟨T.toArray,[]⟩ W
def N4:Prop:=∀ (l:List Nat) (w W:World) (g:Nat) (sc:Bool) (bo:ByteArray) (me:Nat) (pl:Bool) (HX:Hid (RX w W g (patN { sci:=sc,minExp:=me,plus:=pl }))) (HN0:Hid (numZ l=if !(bts bo).all okB then ({},4) else numW (upA 46 (bts bo)) (dnA 46 (bts bo)) ((bts bo).any (· == 46)) sc me pl)) (hbs:bo.size≤100000000) (T:List Value),Rs 321 [(2,.pointer (some ⟨g,0,none⟩)),(4,.pointer (some ⟨g+1,0,none⟩)),(5,.string bo),(7,.bool sc)] T→(qB4).wp Try.prog (bodyPost Try.prog Try.f14 (fun e w'=>e=.returned (.tuple #[.agg (patN (numZ l).1),.int .i64 (((numZ l).2:Nat):Int)])∧Below w.heap.size w w')) ⟨T.toArray,[]⟩ W
def N3:Prop:=∀ (l:List Nat) (w W:World) (g:Nat) (sc:Bool) (bo X:ByteArray) (x:List Nat) (HX:Hid (RX w W g (patN {}))) (HXB:Hid (bts X=x)) (HN0:Hid (numZ l=if sc=true then if (expZ x).1≠0 then ({},(expZ x).1) else numB (bts bo) true (expZ x).2.1 (expZ x).2.2 else numB (bts bo) false 0 false)) (hbs:bo.size≤100000000) (hxs:X.size≤100000000) (T:List Value),Rs 321 [(2,.pointer (some ⟨g,0,none⟩)),(4,.pointer (some ⟨g+1,0,none⟩)),(5,.string bo),(6,.string X),(7,.bool sc)] T→(qB2).wp Try.prog (bodyPost Try.prog Try.f14 (fun e w'=>e=.returned (.tuple #[.agg (patN (numZ l).1),.int .i64 (((numZ l).2:Nat):Int)])∧Below w.heap.size w w')) ⟨T.toArray,[]⟩ W
end Go.Proofs.Ytohfadegildnaaa
