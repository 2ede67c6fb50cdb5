import Derived.Laws.AppendOwnNone
import Derived.Laws.Cover4
import Derived.Handy
import Derived.Test.YtohfadegildnaaaQMA
set_option linter.all false
set_option maxRecDepth 100000
namespace Go.Proofs.Ytohfadegildnaaa
abbrev Tok:=Int × Bool × Int
def er (t:Tok):Int × Bool:=(t.1,t.2.1)
def scn:List Nat→Nat→Int→List Tok × Int
 | [],_,o=>([],o)
 | [c],a,o=>if c=39 then ([],if o < 0 then (a:Int) else -1) else ([((c:Int),decide (0≤o),(a:Int))],o)
 | c :: d :: cs,a,o=>
  if c=39∧d=39 then ((39,true,(a:Int)) :: (scn cs (a+2) o).1,(scn cs (a+2) o).2)
  else if c=39 then scn (d :: cs) (a+1) (if o < 0 then (a:Int) else -1)
  else (((c:Int),decide (0≤o),(a:Int)) :: (scn (d :: cs) (a+(encN c).length) o).1,(scn (d :: cs) (a+(encN c).length) o).2)
theorem scn_nil (a:Nat) (o:Int):scn [] a o=([],o):=rfl
theorem qGL (cs:List Nat) (a:Nat) (o:Int):scn (39 :: 39 :: cs) a o=((39,true,(a:Int)) :: (scn cs (a+2) o).1,(scn cs (a+2) o).2):=by
 simp [scn]
theorem qFF {cs:List Nat} (h:cs.head?≠some 39) (a:Nat) (o:Int):scn (39 :: cs) a o=scn cs (a+1) (if o < 0 then (a:Int) else -1):=by
 cases cs with
 | nil=>simp [scn]
 | cons d cs=>
  have hd:d≠39:=fun e=>h (by rw [e]; rfl)
  rw [scn,if_neg (fun e=>hd e.2),if_pos rfl]
theorem qF1 {c:Nat} (h:c≠39) (cs:List Nat) (a:Nat) (o:Int) :
 scn (c :: cs) a o=(((c:Int),decide (0≤o),(a:Int)) :: (scn cs (a+(encN c).length) o).1,(scn cs (a+(encN c).length) o).2):=by
 cases cs with
 | nil=>simp [scn,h]
 | cons d cs=>rw [scn,if_neg (fun e=>h e.1),if_neg h]
theorem tok_ind {P:List Nat→Prop} (h0:P []) (h2:∀ cs,P cs→P (39 :: 39 :: cs)) (h1:∀ cs,cs.head?≠some 39→P cs→P (39 :: cs)) (he:∀ c cs,c≠39→P cs→P (c :: cs)) (cs:List Nat):P cs:=by
 have hgen:∀ (n:Nat) (cs:List Nat),cs.length≤n→P cs:=by
  intro n
  induction n with
  | zero=>intro cs h; rw [List.eq_nil_of_length_eq_zero (by omega:cs.length=0)]; exact h0
  | succ n ih=>
   intro cs h
   cases cs with
   | nil=>exact h0
   | cons c cs=>
    simp only [List.length_cons] at h
    by_cases hc:c=39
    · subst hc
      cases cs with
      | nil=>exact h1 [] (by simp) h0
      | cons d cs=>
       simp only [List.length_cons] at h
       by_cases hd:d=39
       · subst hd; exact h2 cs (ih cs (by omega))
       · exact h1 (d :: cs) (by simp [hd]) (ih _ (by simp only [List.length_cons]; omega))
    · exact he c cs hc (ih cs (by omega))
 exact hgen _ cs (Nat.le_refl _)
theorem scn_range (cs:List Nat):∀ (a:Nat) (o:Int),-1≤o→o≤(a:Int)+(encs cs).length →
 (-1≤(scn cs a o).2∧(scn cs a o).2≤(a:Int)+(encs cs).length)∧∀ t ∈ (scn cs a o).1,0≤t.2.2∧t.2.2≤(a:Int)+(encs cs).length:=by
 induction cs using tok_ind with
 | h0=>intro a o h h'; exact ⟨⟨h,h'⟩,by simp [scn_nil]⟩
 | h2 cs ih=>
  intro a o h h';have e:(encs (39 :: 39 :: cs)).length=2+(encs cs).length:=by
   rw [qAC,qAC,List.length_append,List.length_append]
   show 1+(1+_)=_
   omega
  rw [e] at h' ⊢;rw [qGL];obtain ⟨i1,i2⟩:=ih (a+2) o h (by omega);refine ⟨⟨i1.1,by have:=i1.2; omega⟩,?_⟩;intro t ht
  rcases List.mem_cons.1 ht with rfl | ht
  · refine ⟨?_,?_⟩ <;> dsimp only <;> omega
  · have:=i2 t ht; omega
 | h1 cs hh ih=>
  intro a o h h';have e:(encs (39 :: cs)).length=1+(encs cs).length:=by
   rw [qAC,List.length_append];rfl
  rw [e] at h' ⊢;rw [qFF hh];obtain ⟨i1,i2⟩:=ih (a+1) (if o < 0 then (a:Int) else -1) (by split <;> omega) (by split <;> omega);refine ⟨⟨i1.1,by have:=i1.2; omega⟩,?_⟩;intro t ht;have:=i2 t ht; omega
 | he c cs hc ih=>
  intro a o h h';have e:(encs (c :: cs)).length=(encN c).length+(encs cs).length:=by rw [qAC,List.length_append]
  rw [e] at h' ⊢;rw [qF1 hc];obtain ⟨i1,i2⟩:=ih (a+(encN c).length) o h (by omega);refine ⟨⟨i1.1,by have:=i1.2; omega⟩,?_⟩;intro t ht
  rcases List.mem_cons.1 ht with rfl | ht
  · refine ⟨?_,?_⟩ <;> dsimp only <;> omega
  · have:=i2 t ht; omega
def mayT (t:Tok):Bool:=isZ t.1 && (t.2.1 || !decide (t.1=39))
theorem scn_may (cs:List Nat):∀ (a:Nat) (o:Int),allC cs=true→(scn cs a o).1.all mayT=true:=by
 induction cs using tok_ind with
 | h0=>intro a o _; rfl
 | h2 cs ih=>
  intro a o h;rw [qGL,List.all_cons,ih _ _ (qAR.1 (qAR.1 h).2).2];rfl
 | h1 cs hh ih=>intro a o h; rw [qFF hh]; exact ih _ _ (qAR.1 h).2
 | he c cs hc ih=>
  intro a o h;obtain ⟨h1,h2⟩:=qAR.1 h;rw [qF1 hc,List.all_cons,ih _ _ h2,Bool.and_true];simp only [mayT,qBR,h1,Bool.true_and,Bool.or_eq_true,Bool.not_eq_true',decide_eq_false_iff_not];exact .inr (by omega)
def toks (l:List Nat):List Tok × Int × Int:=
 if rst l≠[] then ([],2,badZ l)
 else if 0≤(scn (cps l) 0 (-1)).2 then ([],3,(scn (cps l) 0 (-1)).2)
 else if 400 < (scn (cps l) 0 (-1)).1.length then ([],8,0)
 else ((scn (cps l) 0 (-1)).1,0,0)
theorem qFG {l:List Nat} (hl:∀ b ∈ l,b < 256):(toks l).1.all mayT=true∧(toks l).1.length≤400∧((toks l).2.1≠0→(toks l).1=[]):=by
 unfold toks
 split
 · exact ⟨rfl,by simp,fun _=>rfl⟩
 · split
   · exact ⟨rfl,by simp,fun _=>rfl⟩
   · split
     · exact ⟨rfl,by simp,fun _=>rfl⟩
     · exact ⟨scn_may _ _ _ (qBT l hl).2.1,by dsimp only; omega,fun h=>absurd rfl h⟩
open Go.RowKit
open Lib (hid)
def tokV (t:Tok):List Value:=[.int .i32 t.1,.bool t.2.1,.int .i64 t.2.2]
def qC7 (ts:List Tok):List Value:=ts.flatMap tokV
theorem qEL (t:Tok) (ts:List Tok):qC7 (t :: ts)=tokV t++qC7 ts:=rfl
theorem qEP (ts:List Tok):(qC7 ts).length=ts.length * 3:=by
 induction ts with
 | nil=>rfl
 | cons t ts ih=>rw [qEL,List.length_append,ih]; simp only [tokV,List.length_cons,List.length_nil]; omega
theorem qD5 (ts us:List Tok):qC7 (ts++us)=qC7 ts++qC7 us:=by simp [qC7]
theorem toksV_one (t:Tok):qC7 [t]=tokV t:=by simp [qC7]
def tk (ts:List Tok) (k:Nat):Tok:=ts.getD k (0,false,0)
theorem tk_eq {ts:List Tok} {k:Nat} (h:k < ts.length):tk ts k=ts[k]:=by simp [tk,List.getD,List.getElem?_eq_getElem h]
theorem qFH (ts:List Tok):∀ (k j:Nat),k < ts.length→j < 3→(qC7 ts)[k * 3+j]? = (tokV (tk ts k))[j]?:=by
 induction ts with
 | nil=>intro k j h _; simp at h
 | cons t ts ih=>
  intro k j h hj
  cases k with
  | zero=>
   rw [qEL,List.getElem?_append_left (by show _ < 3; omega)];simp [tk]
  | succ k=>
   rw [qEL,List.getElem?_append_right (by show 3≤_; omega)];rw [show (k+1) * 3+j - (tokV t).length=k * 3+j by show _ - 3=_; omega,ih k j (by simpa using h) hj];simp [tk]
def R32 (t:Tok):Prop:=-2147483648≤t.1∧t.1≤2147483647
theorem r32_may {t:Tok} (h:mayT t=true):R32 t:=by
 simp only [mayT,Bool.and_eq_true] at h
 have:=qAQ.1 h.1
 exact ⟨by omega,by omega⟩
def Tks (w:World) (A:Option Addr) (n:Nat) (ts:List Tok):Prop:=qAZ w w.heap.size 3 A n (qC7 ts)∧n≤36000000000000∧∀ t ∈ ts,R32 t
section
variable {w w':World} {n:Nat} {A:Option Addr} {ts:List Tok}
theorem Tks.len (h:Tks w A n ts):ts.length=n:=by have:=h.1.1; rw [qEP] at this; omega
theorem Tks.below (h:Tks w A n ts) (hb:Below w.heap.size w w'):Tks w' A n ts:=⟨(h.1.below hb).more hb.size,h.2⟩
theorem Tks.at_ {k:Nat} (h:Tks w A n ts) (hk:k < n):∃ ad,A=some ad∧ad.block < w.heap.size∧w.cell? (ad.add (k * 3))=some (.int .i32 (tk ts k).1)∧w.cell? ⟨(ad.add (k * 3)).block,(ad.add (k * 3)).off+1,none⟩=some (.bool (tk ts k).2.1) ∧
 w.cell? ⟨(ad.add (k * 3)).block,(ad.add (k * 3)).off+2,none⟩=some (.int .i64 (tk ts k).2.2)∧R32 (tk ts k):=by
 obtain ⟨ad,e,hb,hc⟩:=h.1.2 (by omega)
 have hl:k < ts.length:=by rw [h.len]; exact hk
 have f1:=hc (k * 3+1) (.bool (tk ts k).2.1) (by rw [qFH ts k 1 hl (by omega)]; rfl)
 have f2:=hc (k * 3+2) (.int .i64 (tk ts k).2.2) (by rw [qFH ts k 2 hl (by omega)]; rfl)
 rw [← qDK] at f1 f2
 refine ⟨ad,e,hb,hc (k * 3) _ ?_,f1,f2,?_⟩
 · have:=qFH ts k 0 hl (by omega); rw [Nat.add_zero] at this; rw [this]; rfl
 · rw [tk_eq hl]; exact h.2.2 _ (List.getElem_mem hl)
end
theorem tok_info:(Try.prog.info? 48).map (fun i=>(i.zero,i.size,i.bytes))=some (some (.agg #[.int .i32 0,.bool false,.int .i64 0]),3,16):=by kernel_rfl
def OwnT (w:World) (base:Nat) (A:Option Addr) (m c:Nat) (ts:List Tok):Prop:=
 w.ownsRow base 48 3 (.slice A m c) m (qC7 ts)∧m≤10000000000∧∀ t ∈ ts,R32 t
section
variable {w w':World} {base m c:Nat} {A:Option Addr} {ts:List Tok}
theorem OwnT.len (h:OwnT w base A m c ts):ts.length=m:=by have:=h.1.1; rw [qEP] at this; omega
theorem OwnT.tks (h:OwnT w base A m c ts):Tks w A m ts:=⟨qAZ.of_own h.1,Nat.le_trans h.2.1 (by omega),h.2.2⟩
end
theorem qF2 (w:World) (base:Nat):OwnT w base none 0 0 []:=⟨World.ownsRow_nil _ _ _ _,by omega,by simp⟩
theorem qD6 {w w':World} {base B:Nat} {e:TypeId} {size n:Nat} {v:Value} {xs:List Value} (h:w.ownsRow base e size v n xs) (hb:Below B w w') (hB:B=w.heap.size):w'.ownsRow base e size v n xs:=by
 subst hB
 refine h.kept (row:=none) ⟨hb.os,hb.tape,hb.output,hb.size,fun k hk _=>hb.block k hk⟩ ?_
 cases v.ownBlock <;> simp
theorem qFI (W:World) (xs:List Value) (e:TypeId):∀ j u,xs[j]? = some u→(W.alloc (.cells xs.toArray e)).cell? ((⟨W.heap.size,0,none⟩:Addr).add j)=some u:=
 (World.ownsRow_lit (base:=0) (e:=e) (size:=xs.length) W xs.toArray 1 (Nat.zero_le _) (by unfold maxLen; omega) (by simp)).cells rfl
theorem qAY {W w0:World} {ops:Array Oper} {rest:List Oper} {o:Oper} {a:Act} {Q:Exit→Act→World→Prop} (hgd:o.guard=none) (s x:Operand) (t:TypeId)
 (ho:o.op=.call { callee:=.builtin .append,args:=#[s,x],argTypes:=#[t,t] }) (ht:Try.prog.underlying t=some (.slice 48))
 (base:Nat) (v:Value) (k:Nat) (ts:List Tok) (hs:a.eval s=v) (hown:W.ownsRow base 48 3 v k (qC7 ts)) (u:Tok)
 (hx:a.eval x=.slice (some ⟨W.heap.size,0,none⟩) 1 1) (r:Int) (q:Bool) (p:Int) (hu:u=(r,q,p)) (hk:k≤1000000000000) (hb:Below base w0 W) (hbase:base≤W.heap.size)
 (h:∀ v' w',Hid (w'.ownsRow base 48 3 v' (k+1) (qC7 (ts++[u])))→Hid (Below base w0 w')→Hid (∀ k,k < W.heap.size→v.ownBlock≠some k→w'.heap[k]? = W.heap[k]?)→wpList Try.prog ops Q rest (a.put o.dst v') w') :
 wpList Try.prog ops Q (o :: rest) a (W.alloc (.cells #[.int .i32 r,.bool q,.int .i64 p] 48)):=by
 obtain ⟨i0,hi,hz0,hz1,hz2⟩:=info_parts tok_info
 subst hu
 refine wpList_append_own _ hgd s x t ho base 48 i0 _ 3 16 ht hi hz0 hz1 hz2 rfl (by decide) v k _ hs (hown.alloc _) ⟨W.heap.size,0,none⟩ 1 1 [.int .i32 r,.bool q,.int .i64 p] hx rfl (qFI W _ _) ?_ ?_ ?_ ?_ ?_
 · intro v hv
   simp only [List.mem_cons,List.not_mem_nil,or_false] at hv
   rcases hv with rfl | rfl | rfl <;> rfl
 · unfold maxLen; omega
 · omega
 · simp; omega
 · intro v' w' h1 h2 _
   refine h v' w' ?_ ?_ ?_
   · rw [qD5,toksV_one]; exact h1
   · refine (hb.alloc hbase _).grown h2 (by simp; omega) fun j hj=>?_
     exact (hown.lt j hj).1
   · intro k hk hne
     rw [h2.block k (by simp; omega) (fun e=>hne e.symm)]
     show (W.heap.push _)[k]? = _
     rw [Array.getElem?_push_lt hk,Array.getElem?_eq_getElem hk]
def Rem (s:ByteArray) (p:Nat) (cs:List Nat):Prop:=p≤s.size∧(bts s).drop p=encs cs∧allC cs=true
theorem Rem.zero {s:ByteArray} (h:rst (bts s)=[]):Rem s 0 (cps (bts s)):=⟨Nat.zero_le _,qCE (qAF s) h,(qBT _ (qAF s)).2.1⟩
theorem Rem.len {s:ByteArray} {p:Nat} {cs:List Nat} (h:Rem s p cs):p+(encs cs).length=s.size:=by
 have:=congrArg List.length h.2.1
 rw [List.length_drop,qA0] at this
 have:=h.1
 omega
theorem Rem.none {s:ByteArray} {p:Nat} (h:Rem s p []):¬ p < s.size:=by
 have:=h.len
 rw [encs_nil] at this
 simp at this; omega
theorem Rem.some {s:ByteArray} {p:Nat} {c:Nat} {cs:List Nat} (h:Rem s p (c :: cs)) :
 isC c=true∧Rem s (p+(encN c).length) cs∧Utf8.decode s p=(c,(encN c).length)∧p < s.size∧1≤(encN c).length:=by
 obtain ⟨h1,h2⟩:=qAR.1 h.2.2
 have hl:=h.len
 have hp:=qBG c
 rw [qAC,List.length_append] at hl
 refine ⟨h1,⟨by omega,?_,h2⟩,?_,by omega,hp⟩
 · rw [← List.drop_drop,h.2.1,qAC,List.drop_append_of_le_length (Nat.le_refl _),List.drop_length,List.nil_append]
 · rw [qEK,h.2.1,qAC,dec_enc h1]
section
variable {F:List Tok × Int} {L:List Tok} {p nx:Nat} {cs:List Nat} {o:Int}
end
def FB (w:World) (g:Nat) (x y:Value):Prop:=w.heap[g]? = some (.cells #[x,y] 29 (0,0))
section
variable {w w':World} {g:Nat} {x y:Value}
theorem FB.c0 (h:FB w g x y):w.cell? ⟨g,0,none⟩=some x:=by rw [cell_of_row w g 0 _ _ _ h]; rfl
theorem FB.c1 (h:FB w g x y):w.cell? ⟨g,1,none⟩=some y:=by rw [cell_of_row w g 1 _ _ _ h]; rfl
theorem FB.fr (h:FB w g x y) (k:Nat):w.frozen? ⟨g,k,none⟩=false:=by simp [World.frozen?,show w.heap[g]? = _ from h]
theorem FB.below {B:Nat} (h:FB w g x y) (hb:Below B w w') (hg:g < B):FB w' g x y:=(hb.block g hg).trans h
theorem FB.new (w:World) (x y:Value):FB (w.alloc (.cells #[x,y] 29)) w.heap.size x y:=heap_alloc_new w _
theorem FB.alloc (h:FB w g x y) (o:Obj):FB (w.alloc o) g x y:=by
 have hg:g < w.heap.size:=(Array.getElem?_eq_some_iff.1 h).1
 exact (heap_alloc_old w o hg).trans h
theorem FB.set (h:FB w g x y) (x' y':Value):FB ((w.setCell ⟨g,0,none⟩ x').setCell ⟨g,1,none⟩ y') g x' y':=
 heap_setCell_same _ g 1 _ _ y' (heap_setCell_same w g 0 _ _ x' h)
theorem Below.set2 {B:Nat} (h:Below B w w') (hg:B≤g) (x' y':Value):Below B w ((w'.setCell ⟨g,0,none⟩ x').setCell ⟨g,1,none⟩ y'):=
 (h.setCell (p:=⟨g,0,none⟩) hg _).setCell (p:=⟨g,1,none⟩) hg _
end
theorem qB0 {w:World} {base:Nat} {e:TypeId} {size n:Nat} {v:Value} {xs:List Value} (h:w.ownsRow base e size v n xs) {p:Addr} (hp:p.block < base) (u:Value):(w.setCell p u).ownsRow base e size v n xs:=by
 refine h.kept (row:=some p.block) ⟨rfl,rfl,rfl,by simp,fun k _ hk=>heap_setCell_other w p k u (fun e=>hk (by rw [e]))⟩ ?_
 rcases hv:v.ownBlock with _ | k
 · exact .inl rfl
 · right
   intro e;have:=(h.lt k hv).1
   cases e
   omega
theorem scn_isZ {cs:List Nat} (h:allC cs=true) (a:Nat) (o:Int):∀ t ∈ (scn cs a o).1,R32 t:=fun t ht=>r32_may (List.all_eq_true.1 (scn_may cs a o h) t ht)
theorem qHE (ts:List Tok) {k:Nat} (h:k < ts.length):ts.take (k+1)=ts.take k++[tk ts k]:=by
 rw [List.take_succ_eq_append_getElem h,tk_eq h]
theorem qHF {w w':World} {base B:Nat} {e:TypeId} {size n:Nat} {v:Value} {xs:List Value} (h:w.ownsRow base e size v n xs) (hv:∀ k,v.ownBlock=some k→k < B) (hb:Below B w w'):w'.ownsRow base e size v n xs:=by
 refine ⟨h.1,?_⟩
 rcases h.2 with h' | ⟨g,cap,cur,rfl,h1,h2,h3⟩
 · exact .inl h'
 · exact .inr ⟨g,cap,cur,rfl,h1,(hb.block g (hv g rfl)).trans h2,h3⟩
abbrev Itm:=Int × Int
def sgs:List Nat:=[45,43,37,8240,164]
def mks:List Nat:=[35,48,49,50,51,52,53,54,55,56,57,64,44,46,59,42]
def oth:List Nat:=[69,39]
def sgn (k:Nat):Nat:=sgs.getD k 0
def sgo (k:Nat):Nat:=[0,1,2,3,6,8].getD k 8
def sgK (r:Int):Int:=if r=45 then 2 else if r=43 then 3 else if r=37 then 4 else if r=8240 then 5 else if r=164 then 6 else 0
def mrk (r:Int):Bool:=decide (r ∈ ints mks)
def nds (r:Int):Bool:=decide (r ∈ ints sgs) || mrk r || decide (r ∈ ints oth)
theorem mks_cons:ints mks=[35,48,49,50,51,52,53,54,55,56,57,64,44,46,59,42]:=rfl
theorem mrk_iff {r:Int}:mrk r=true↔(48≤r∧r≤57)∨r=35∨r=64∨r=44∨r=46∨r=59∨r=42:=by
 rw [mrk,decide_eq_true_iff,mks_cons]
 simp only [List.mem_cons,List.not_mem_nil,or_false]
 omega
theorem qFJ (r:Int):0≤sgK r∧sgK r≤6:=by
 unfold sgK; repeat' split
 all_goals omega
def itm (t:Tok):Itm:=if t.2.1=false∧sgK t.1≠0 then (sgK t.1,0) else (1,t.1)
theorem itm_q {t:Tok} (h:t.2.1=true):itm t=(1,t.1):=by rw [itm,if_neg (by rw [h]; simp)]
theorem itm_p {t:Tok} (h:sgK t.1=0):itm t=(1,t.1):=by rw [itm,if_neg (by rw [h]; simp)]
theorem itm_s {t:Tok} (h:t.2.1=false) (h':sgK t.1≠0):itm t=(sgK t.1,0):=by rw [itm,if_pos ⟨h,h'⟩]
def badT (t:Tok):Bool:=!t.2.1 && mrk t.1
def itms (ts:List Tok):List Itm × Int × Int:=
 match ts.find? badT with
 | some t=>([],4,t.2.2)
 | none=>if 40 < ts.length then ([],8,0) else (ts.map itm,0,0)
theorem itms_bad {ts:List Tok} {t:Tok} (h:ts.find? badT=some t):itms ts=([],4,t.2.2):=by rw [itms,h]
theorem qHG {ts:List Tok} (h:ts.find? badT=none) (hl:40 < ts.length):itms ts=([],8,0):=by rw [itms,h]; exact if_pos hl
theorem itms_ok {ts:List Tok} (h:ts.find? badT=none) (hl:¬ 40 < ts.length):itms ts=(ts.map itm,0,0):=by rw [itms,h]; exact if_neg hl
theorem find_at {ts:List Tok} {k:Nat} (hk:k < ts.length) (h:(ts.take k).find? badT=none) (hb:badT (tk ts k)=true):ts.find? badT=some (tk ts k):=by
 have e:ts=ts.take k++tk ts k :: ts.drop (k+1):=by
  conv=>lhs; rw [← List.take_append_drop k ts,List.drop_eq_getElem_cons hk,← tk_eq hk]
 rw [e,List.find?_append,h]
 simp only [Option.none_or]
 rw [← e,List.find?_cons,hb]
theorem find_take {ts:List Tok} {k:Nat} (hk:k < ts.length) (h:(ts.take k).find? badT=none) (hb:badT (tk ts k)=false):(ts.take (k+1)).find? badT=none:=by
 rw [List.take_succ_eq_append_getElem hk,List.find?_append,h,← tk_eq hk]
 simp [hb]
def mayI (i:Itm):Bool:=(decide (i.1=1) && isZ i.2) || (decide (2≤i.1) && decide (i.1≤6) && decide (i.2=0))
theorem qC3 {k r:Int}:mayI (k,r)=true↔(k=1∧isZ r=true)∨(2≤k∧k≤6∧r=0):=by
 simp [mayI,and_assoc]
def tkI (i:Itm):Tok:=if i.1=1 then (i.2,nds i.2,0) else (((sgn (i.1.toNat - 2):Nat):Int),false,0)
theorem tkI_lit (r:Int):tkI (1,r)=(r,nds r,0):=rfl
theorem tkI_sign {k:Nat} (r:Int):tkI (2+(k:Int),r)=(((sgn k:Nat):Int),false,0):=by
 rw [tkI,if_neg (by omega),show (2+(k:Int)).toNat - 2=k by omega]
def tksI (is:List Itm):List Tok:=if is.all mayI then is.map tkI else []
theorem tksI_may {is:List Itm} (h:is.all mayI=true):tksI is=is.map tkI:=by rw [tksI,if_pos h]
theorem tksI_no {is:List Itm} (h:is.all mayI=false):tksI is=[]:=by rw [tksI,if_neg (by rw [h]; decide)]
theorem itms_len (ts:List Tok):(itms ts).1.length≤40:=by
 unfold itms; split
 · exact Nat.zero_le _
 · split
   · exact Nat.zero_le _
   · simp; omega
def itmV (i:Itm):List Value:=[.int .i64 i.1,.int .i32 i.2]
def itsV (is:List Itm):List Value:=is.flatMap itmV
theorem qFK (i:Itm) (is:List Itm):itsV (i :: is)=itmV i++itsV is:=rfl
theorem qBU (is:List Itm):(itsV is).length=is.length * 2:=by
 induction is with
 | nil=>rfl
 | cons i is ih=>rw [qFK,List.length_append,ih]; simp only [itmV,List.length_cons,List.length_nil]; omega
theorem qFL (is js:List Itm):itsV (is++js)=itsV is++itsV js:=by simp [itsV]
theorem itsV_one (i:Itm):itsV [i]=itmV i:=by simp [itsV]
def im (is:List Itm) (k:Nat):Itm:=is.getD k (0,0)
theorem im_eq {is:List Itm} {k:Nat} (h:k < is.length):im is k=is[k]:=by simp [im,List.getD,List.getElem?_eq_getElem h]
theorem im_mem {is:List Itm} {k:Nat} (h:k < is.length):im is k ∈ is:=by rw [im_eq h]; exact List.getElem_mem h
theorem qHH (is:List Itm) {k:Nat} (h:k < is.length):is.take (k+1)=is.take k++[im is k]:=by
 rw [List.take_succ_eq_append_getElem h,im_eq h]
theorem itsV_get (is:List Itm):∀ (k j:Nat),k < is.length→j < 2→(itsV is)[k * 2+j]? = (itmV (im is k))[j]?:=by
 induction is with
 | nil=>intro k j h _; simp at h
 | cons t ts ih=>
  intro k j h hj
  cases k with
  | zero=>
   rw [qFK,List.getElem?_append_left (by show _ < 2; omega)];simp [im]
  | succ k=>
   rw [qFK,List.getElem?_append_right (by show 2≤_; omega)];rw [show (k+1) * 2+j - (itmV t).length=k * 2+j by show _ - 2=_; omega,ih k j (by simpa using h) hj];simp [im]
def RI (i:Itm):Prop:=(-9223372036854775808≤i.1∧i.1≤9223372036854775807)∧-2147483648≤i.2∧i.2≤2147483647
theorem ri_itm {t:Tok} (h:R32 t):RI (itm t):=by
 have:=qFJ t.1
 unfold itm; split
 · exact ⟨⟨by dsimp only; omega,by dsimp only; omega⟩,by dsimp only; omega,by dsimp only; omega⟩
 · exact ⟨⟨by dsimp only; omega,by dsimp only; omega⟩,h⟩
theorem r32_tkI {i:Itm} (h:RI i):R32 (tkI i):=by
 unfold tkI; split
 · exact h.2
 · have hg:sgn (i.1.toNat - 2)≤8240:=by
    rcases Nat.lt_or_ge (i.1.toNat - 2) 5 with hk | hk
    · generalize i.1.toNat - 2=k at hk
      have:k=0∨k=1∨k=2∨k=3∨k=4:=by omega
      rcases this with rfl | rfl | rfl | rfl | rfl <;> decide
    · rw [sgn,List.getD,List.getElem?_eq_none hk]; decide
   exact ⟨by dsimp only; omega,by dsimp only; omega⟩
def Its (w:World) (A:Option Addr) (n:Nat) (is:List Itm):Prop:=qAZ w w.heap.size 2 A n (itsV is)∧n≤36000000000000∧∀ i ∈ is,RI i
section
variable {w w':World} {n:Nat} {A:Option Addr} {is:List Itm}
theorem Its.len (h:Its w A n is):is.length=n:=by have:=h.1.1; rw [qBU] at this; omega
theorem Its.below (h:Its w A n is) (hb:Below w.heap.size w w'):Its w' A n is:=⟨(h.1.below hb).more hb.size,h.2⟩
theorem Its.at_ {k:Nat} (h:Its w A n is) (hk:k < n):∃ ad,A=some ad∧ad.block < w.heap.size∧w.cell? (ad.add (k * 2))=some (.int .i64 (im is k).1)∧w.cell? ⟨(ad.add (k * 2)).block,(ad.add (k * 2)).off+1,none⟩=some (.int .i32 (im is k).2)∧RI (im is k):=by
 obtain ⟨ad,e,hb,hc⟩:=h.1.2 (by omega)
 have hl:k < is.length:=by rw [h.len]; exact hk
 have f1:=hc (k * 2+1) (.int .i32 (im is k).2) (by rw [itsV_get is k 1 hl (by omega)]; rfl)
 rw [← qDK] at f1
 refine ⟨ad,e,hb,hc (k * 2) _ ?_,f1,?_⟩
 · have:=itsV_get is k 0 hl (by omega); rw [Nat.add_zero] at this; rw [this]; rfl
 · rw [im_eq hl]; exact h.2.2 _ (List.getElem_mem hl)
end
theorem qGM (w:World):Its w none 0 []:=⟨qAZ.none_,by omega,by simp⟩
theorem itm_info:(Try.prog.info? 57).map (fun i=>(i.zero,i.size,i.bytes))=some (some (.agg #[.int .i64 0,.int .i32 0]),2,16):=by kernel_rfl
def OwnI (w:World) (base:Nat) (A:Option Addr) (m c:Nat) (is:List Itm):Prop:=
 w.ownsRow base 57 2 (.slice A m c) m (itsV is)∧m≤10000000000∧∀ i ∈ is,RI i
section
variable {w w':World} {base m c:Nat} {A:Option Addr} {is:List Itm}
end
theorem ownI_nil (w:World) (base:Nat):OwnI w base none 0 0 []:=⟨World.ownsRow_nil _ _ _ _,by omega,by simp⟩
theorem qC8 {W w0:World} {ops:Array Oper} {rest:List Oper} {o:Oper} {a:Act} {Q:Exit→Act→World→Prop} (hgd:o.guard=none) (s x:Operand) (t:TypeId)
 (ho:o.op=.call { callee:=.builtin .append,args:=#[s,x],argTypes:=#[t,t] }) (ht:Try.prog.underlying t=some (.slice 57))
 (base:Nat) (v:Value) (k:Nat) (is:List Itm) (hs:a.eval s=v) (hown:W.ownsRow base 57 2 v k (itsV is)) (u:Itm)
 (hx:a.eval x=.slice (some ⟨W.heap.size,0,none⟩) 1 1) (p r:Int) (hu:u=(p,r)) (hk:k≤1000000000000) (hb:Below base w0 W) (hbase:base≤W.heap.size)
 (h:∀ v' w',Hid (w'.ownsRow base 57 2 v' (k+1) (itsV (is++[u])))→Hid (Below base w0 w')→Hid (∀ k,k < W.heap.size→v.ownBlock≠some k→w'.heap[k]? = W.heap[k]?)→wpList Try.prog ops Q rest (a.put o.dst v') w') :
 wpList Try.prog ops Q (o :: rest) a (W.alloc (.cells #[.int .i64 p,.int .i32 r] 57)):=by
 obtain ⟨i0,hi,hz0,hz1,hz2⟩:=info_parts itm_info
 subst hu
 refine wpList_append_own _ hgd s x t ho base 57 i0 _ 2 16 ht hi hz0 hz1 hz2 rfl (by decide) v k _ hs (hown.alloc _) ⟨W.heap.size,0,none⟩ 1 1 [.int .i64 p,.int .i32 r] hx rfl (qFI W _ _) ?_ ?_ ?_ ?_ ?_
 · intro v hv
   simp only [List.mem_cons,List.not_mem_nil,or_false] at hv
   rcases hv with rfl | rfl <;> rfl
 · unfold maxLen; omega
 · omega
 · simp; omega
 · intro v' w' h1 h2 _
   refine h v' w' ?_ ?_ ?_
   · rw [qFL,itsV_one]; exact h1
   · refine (hb.alloc hbase _).grown h2 (by simp; omega) fun j hj=>?_
     exact (hown.lt j hj).1
   · intro k hk hne
     rw [h2.block k (by simp; omega) (fun e=>hne e.symm)]
     show (W.heap.push _)[k]? = _
     rw [Array.getElem?_push_lt hk,Array.getElem?_eq_getElem hk]
def sgB:ByteArray:=⟨#[45,43,37,226,128,176,194,164]⟩
def mkB:ByteArray:=⟨#[35,48,49,50,51,52,53,54,55,56,57,64,44,46,59,42]⟩
def otB:ByteArray:=⟨#[69,39]⟩
theorem sgB_eq:stz (encs sgs)=sgB:=by decide +kernel
theorem mkB_eq:stz (encs mks)=mkB:=by decide +kernel
theorem otB_eq:stz (encs oth)=otB:=by decide +kernel
theorem sg_step {k:Nat} (h:k < 5):Utf8.decode sgB (sgo k)=(sgn k,sgo (k+1) - sgo k)∧sgo k < sgB.size∧sgo k+(sgo (k+1) - sgo k)=sgo (k+1)∧sgo k≤6∧1≤sgo (k+1) - sgo k:=by
 have:k=0∨k=1∨k=2∨k=3∨k=4:=by omega
 rcases this with rfl | rfl | rfl | rfl | rfl <;> refine ⟨by decide +kernel,by decide,by decide,by decide,by decide⟩
theorem sg_end:¬ sgo 5 < sgB.size:=by decide
def BX (w:World) (g:Nat) (vs:Array Value) (T:TypeId):Prop:=w.heap[g]? = some (.cells vs T (0,0))
section
variable {w w':World} {g:Nat} {vs:Array Value} {T:TypeId}
theorem BX.c (h:BX w g vs T) (j:Nat):w.cell? ⟨g,j,none⟩=vs[j]?:=by rw [cell_of_row w g j _ _ _ h]
theorem BX.v {v:Value} (h:BX w g vs T) (j:Nat) (hv:vs[j]? = some v):w.cell? ⟨g,j,none⟩=some v:=(h.c j).trans hv
theorem BX.fr (h:BX w g vs T) (k:Nat):w.frozen? ⟨g,k,none⟩=false:=by simp [World.frozen?,show w.heap[g]? = _ from h]
theorem BX.below {B:Nat} (h:BX w g vs T) (hb:Below B w w') (hg:g < B):BX w' g vs T:=(hb.block g hg).trans h
theorem BX.new (w:World) (vs:Array Value) (T:TypeId):BX (w.alloc (.cells vs T)) w.heap.size vs T:=heap_alloc_new w _
theorem BX.lt (h:BX w g vs T):g < w.heap.size:=(Array.getElem?_eq_some_iff.1 h).1
theorem BX.alloc (h:BX w g vs T) (o:Obj):BX (w.alloc o) g vs T:=(heap_alloc_old w o h.lt).trans h
theorem BX.set3 {x y z:Value} (h:BX w g #[x,y,z] T) (x' y' z':Value):BX (((w.setCell ⟨g,0,none⟩ x').setCell ⟨g,1,none⟩ y').setCell ⟨g,2,none⟩ z') g #[x',y',z'] T:=
 heap_setCell_same _ g 2 _ _ z' (heap_setCell_same _ g 1 _ _ y' (heap_setCell_same w g 0 _ _ x' h))
theorem Below.set3 {B:Nat} (h:Below B w w') (hg:B≤g) (x' y' z':Value):Below B w (((w'.setCell ⟨g,0,none⟩ x').setCell ⟨g,1,none⟩ y').setCell ⟨g,2,none⟩ z'):=
 (Below.set2 h hg x' y').setCell (p:=⟨g,2,none⟩) hg _
end
theorem ints_mem {x:Nat} {cs:List Nat}:((x:Nat):Int) ∈ ints cs↔x ∈ cs:=by
 constructor
 · intro h
   obtain ⟨y,hy,e⟩:=List.mem_map.1 h
   rwa [← Int.ofNat_inj.1 e]
 · exact fun h=>List.mem_map.2 ⟨x,h,rfl⟩
set_option maxHeartbeats 1000000 in
theorem has_c (s:ByteArray) (cs:List Nat) (hs:stz (encs cs)=s) (hc:allC cs=true) (r:Int) (w:World):Calls Try.prog 60 #[.string s,.int .i32 r] w fun e w'=>
 e=.returned (.bool (decide (r ∈ ints cs)))∧Below w.heap.size w w':=by
 have hcp:cps (bts s)=cs∧rst (bts s)=[]:=by rw [← hs,qAS (qGG hc)]; exact ⟨cps_encs hc,rst_encs hc⟩
 have HCP:=hid hcp
 clear hcp hs
 generalize hg:w.heap.size=g at *
 have Hg:=hid hg
 clear hg
 have B0:=hid (show Below g w w by rw [← Hg.out]; exact Below.refl _ _)
 go_enter Try.func60,Try.ntmps60
 go_wp2
 rw [Hg.out]
 go_loopw [] (fun wr=>∃ (p:Nat) (ds:List Nat),Upto s p ds∧wr.heap[g]? = some (.stringIter s p)∧(∀ x ∈ ds,r≠(x:Int))∧Below g w wr) (fun wr=>s.size - wr.iterPos g)
 case atStart=>
  refine ⟨0,[],Upto.zero s,?_,fun x hx=>absurd hx (by simp),B0.out.alloc (by rw [Hg.out]; exact Nat.le_refl _) _⟩;rw [← Hg.out]; exact heap_alloc_new w _
 case round=>
  obtain ⟨p,ds,hu0,hit0,hds0,hb0⟩:=hrel;have HU:=hid hu0;have HIT:=hid hit0;have HD:=hid hds0;have HB:=hid hb0;have hple:=hu0.1;have hpos0:wr.iterPos g=p:=by simp [World.iterPos,hit0]
  have HPOS:=hid hpos0;clear hu0 hit0 hds0 hb0 hpos0
  by_cases hlt:p < s.size
  · have hnx:=Lib.run_next_any_at (P:=Try.prog) wr g s p 0 HIT.out hlt
    rcases hf:fstN ((bts s).drop p) with _ | c
    · exact absurd HCP.out.2 (HU.out.here hlt hf).2.1
    · obtain ⟨hcc,hu1,hd,hw1⟩:=HU.out.step hf
      rw [hd] at hnx;have HU1:=hid hu1;have HBQ:=hid (Lib.below_iterAt HB.out (Nat.le_refl g) s (p+(encN c).length));have HITQ:=hid (Lib.iterAt_heap wr g s p (p+(encN c).length) HIT.out);have hcle:=qD3 hcc;clear hu1 hd hf hcc
      by_cases hr:(c:Int)=r
      · subst hr
        have HM:=hid (show decide (((c:Nat):Int) ∈ ints cs)=true by
         rw [decide_eq_true_iff,ints_mem];have e:=HU1.out.scan.1;rw [HCP.out.1] at e;rw [e]; simp)
        go_wp2
        go_ret
        rw [HM.out];exact ⟨rfl,HBQ.out⟩
      · have g1:((c:Int) == r)=false:=by simpa using hr
        have HR:=hid (Ne.symm hr);clear hr
        go_wp2
        go_roundw
        case rel=>
         refine ⟨_,_,HU1.out,HITQ.out,fun x hx=>?_,HBQ.out⟩
         rcases List.mem_append.1 hx with hx | hx
         · exact HD.out x hx
         · rw [List.mem_singleton] at hx; subst hx; exact HR.out
        case measure=>
         have e1:(wr.iterAt g s (p+(encN c).length)).iterPos g=p+(encN c).length:=by simp [World.iterPos,HITQ.out]
         rw [HPOS.out,e1]; omega
  · have hnx:=Lib.run_next_end_at (P:=Try.prog) wr g s p 0 HIT.out hlt
    have HM:=hid (show decide (r ∈ ints cs)=false by
     rw [decide_eq_false_iff_not];intro hm;obtain ⟨x,hx,e⟩:=List.mem_map.1 hm;have e2:=(HU.out.end_ hlt).1;rw [HCP.out.1] at e2;rw [e2] at hx;exact HD.out x hx e.symm)
    go_wp2
    go_ret
    rw [HM.out];exact ⟨rfl,HB.out⟩
theorem hasS_c (r:Int) (w:World):Calls Try.prog 60 #[.string ⟨#[45,43,37,226,128,176,194,164]⟩,.int .i32 r] w fun e w'=>e=.returned (.bool (decide (r ∈ ints sgs)))∧Below w.heap.size w w':=
 has_c sgB sgs sgB_eq (by decide) r w
theorem hasM_c (r:Int) (w:World):Calls Try.prog 60 #[.string ⟨#[35,48,49,50,51,52,53,54,55,56,57,64,44,46,59,42]⟩,.int .i32 r] w fun e w'=>e=.returned (.bool (mrk r))∧Below w.heap.size w w':=
 has_c mkB mks mkB_eq (by decide) r w
theorem hasO_c (r:Int) (w:World):Calls Try.prog 60 #[.string ⟨#[69,39]⟩,.int .i32 r] w fun e w'=>e=.returned (.bool (decide (r ∈ ints oth)))∧Below w.heap.size w w':=
 has_c otB oth otB_eq (by decide) r w
set_option maxHeartbeats 1000000 in
theorem needs_c (r:Int) (w:World):Calls Try.prog 56 #[.int .i32 r] w fun e w'=>e=.returned (.bool (nds r))∧Below w.heap.size w w':=by
 have C1:=hid (hasS_c r)
 have C2:=hid (hasM_c r)
 have C3:=hid (hasO_c r)
 unfold nds
 generalize decide (r ∈ ints sgs)=a at *
 generalize mrk r=b at *
 generalize decide (r ∈ ints oth)=c at *
 cases a
 · cases b
   · go_enter Try.func56,Try.ntmps56
     go_wp2_with fail
     refine (C1.out _).mono ?_;rintro e w1 ⟨rfl,hb1⟩;have B1:=hid hb1;clear hb1
     go_wp2_with fail
     refine (C2.out _).mono ?_;rintro e w2 ⟨rfl,hb2⟩;have B2:=hid (B1.out.trans (hb2.mono B1.out.size));clear hb2
     go_wp2_with fail
     refine (C3.out _).mono ?_;rintro e w3 ⟨rfl,hb3⟩;have B3:=hid (B2.out.trans (hb3.mono B2.out.size));clear hb3
     go_wp2
     go_ret
     exact ⟨rfl,B3.out⟩
   · go_enter Try.func56,Try.ntmps56
     go_wp2_with fail
     refine (C1.out _).mono ?_;rintro e w1 ⟨rfl,hb1⟩;have B1:=hid hb1;clear hb1
     go_wp2_with fail
     refine (C2.out _).mono ?_;rintro e w2 ⟨rfl,hb2⟩;have B2:=hid (B1.out.trans (hb2.mono B1.out.size));clear hb2
     go_wp2
     go_ret
     exact ⟨rfl,B2.out⟩
 · go_enter Try.func56,Try.ntmps56
   go_wp2_with fail
   refine (C1.out _).mono ?_;rintro e w1 ⟨rfl,hb1⟩;have B1:=hid hb1;clear hb1
   go_wp2
   go_ret
   exact ⟨rfl,B1.out⟩
def tlI (i:Itm):Tok:=if mayI i then tkI i else (0,false,0)
theorem qGN {i:Itm} (h:mayI i=true):tlI i=tkI i:=by rw [tlI,if_pos h]
theorem tlI_no {i:Itm} (h:mayI i=false):tlI i=(0,false,0):=by rw [tlI,if_neg (by rw [h]; decide)]
set_option maxHeartbeats 1000000 in
theorem tellLit_c (r:Int) (w:World) (hz:isZ r=true):Calls Try.prog 50 #[.agg #[.int .i64 1,.int .i32 r]] w fun e w'=>
 e=.returned (.tuple #[.agg #[.int .i32 r,.bool (nds r),.int .i64 0],.bool true])∧Below w.heap.size w w':=by
 have CZ:=hid (qDY r)
 rw [hz] at CZ
 have CN:=hid (needs_c r)
 generalize nds r=N at *
 clear hz
 generalize hg:w.heap.size=g at *
 have Hg:=hid hg
 clear hg
 have A0:=(BX.new w #[.int .i64 1,.int .i32 r] 57).alloc (.cells #[.int .i32 0,.bool false,.int .i64 0] 48)
 have A1:=BX.new (w.alloc (.cells #[.int .i64 1,.int .i32 r] 57)) #[.int .i32 0,.bool false,.int .i64 0] 48
 rw [World.size_alloc,Hg.out] at A1
 rw [Hg.out] at A0
 have B0:=(((Below.refl g w).alloc (by rw [Hg.out]; exact Nat.le_refl _) (.cells #[.int .i64 1,.int .i32 r] 57)).alloc (by rw [World.size_alloc,Hg.out]; omega) (.cells #[.int .i32 0,.bool false,.int .i64 0] 48))
 have S1:((w.alloc (.cells #[.int .i64 1,.int .i32 r] 57)).alloc (.cells #[.int .i32 0,.bool false,.int .i64 0] 48)).heap.size=g+1+1:=by rw [World.size_alloc,World.size_alloc,Hg.out]
 generalize hW:((w.alloc (.cells #[.int .i64 1,.int .i32 r] 57)).alloc (.cells #[.int .i32 0,.bool false,.int .i64 0] 48))=W at *
 have HW:=hid hW
 clear hW
 have S1:=hid S1
 have B0:=hid B0
 have c0:W.cell? ⟨g,0,none⟩=some (.int .i64 1):=A0.c 0
 have c1:W.cell? ⟨g,1,none⟩=some (.int .i32 r):=A0.c 1
 have A0:=hid A0
 have A1:=hid A1
 go_enter Try.func50,Try.ntmps50
 go_wp2_with fail
 rw [HW.out,Hg.out]
 refine (CZ.out W).mono ?_
 rintro e w1 ⟨rfl,rfl⟩
 have hgs0:g < W.drew.heap.size:=by show g < W.heap.size; have:=S1.out; omega
 have hgs:g+1 < W.drew.heap.size:=by show g+1 < W.heap.size; have:=S1.out; omega
 have hgl:g≤W.drew.heap.size:=by show g≤W.heap.size; have:=S1.out; omega
 have A1d:Hid (BX W.drew (g+1) #[.int .i32 0,.bool false,.int .i64 0] 48):=hid A1.out
 have B0d:=hid B0.out.drew
 go_wp2
 go_region_with (go_at_call 56; refine (CN.out _).mono ?_; rintro e W5 ⟨rfl,hb5⟩; have c5:W5.cell? ⟨g,1,none⟩=some (.int .i32 r):=(hb5.cell (p:=⟨g,1,none⟩) hgs0).trans c1; have F5:=A1d.out.below hb5 hgs; have B5:=hid (B0d.out.trans (hb5.mono hgl)); have f0:W5.cell? ⟨g+1,0,none⟩=some (.int .i32 0):=F5.c 0; have f1:W5.cell? ⟨g+1,1,none⟩=some (.bool false):=F5.c 1; have f2:W5.cell? ⟨g+1,2,none⟩=some (.int .i64 0):=F5.c 2; have f3:=F5.fr 0; have f4:=F5.fr 1; have f5:=F5.fr 2; have F5:=hid F5; clear hb5)
 all_goals
  have FE:=F5.out.set3 (.int .i32 r) (.bool N) (.int .i64 0);have e0:=FE.v 0 rfl;have e1:=FE.v 1 rfl;have e2:=FE.v 2 rfl;have BE:=hid (Below.set3 B5.out (show g≤g+1 by omega) (.int .i32 r) (.bool N) (.int .i64 0));clear FE
  go_wp2
  generalize hWE:((W5.setCell ⟨g+1,0,none⟩ (.int .i32 r)).setCell ⟨g+1,1,none⟩ (.bool N)).setCell ⟨g+1,2,none⟩ (.int .i64 0)=WE at *;exact bodyPost_ret (v:=.tuple #[.agg #[.int .i32 r,.bool N,.int .i64 0],.bool true]) (by simp [results,Try.results50,go_sem,e0,e1,e2]) rfl ⟨rfl,BE.out⟩
set_option maxHeartbeats 1000000 in
theorem tellSign_c (a r:Int) (w:World) (hno:a=1→isZ r=false):Calls Try.prog 50 #[.agg #[.int .i64 a,.int .i32 r]] w fun e w'=>
 e=.returned (.tuple #[.agg #[.int .i32 (tlI (a,r)).1,.bool (tlI (a,r)).2.1,.int .i64 (tlI (a,r)).2.2],.bool (mayI (a,r))])∧Below w.heap.size w w':=by
 have HNO:=hid hno
 clear hno
 generalize hg:w.heap.size=g at *
 have Hg:=hid hg
 clear hg
 have A0:=(BX.new w #[.int .i64 a,.int .i32 r] 57).alloc (.cells #[.int .i32 0,.bool false,.int .i64 0] 48)
 have A1:=BX.new (w.alloc (.cells #[.int .i64 a,.int .i32 r] 57)) #[.int .i32 0,.bool false,.int .i64 0] 48
 rw [World.size_alloc,Hg.out] at A1
 rw [Hg.out] at A0
 have B0:=(((Below.refl g w).alloc (by rw [Hg.out]; exact Nat.le_refl _) (.cells #[.int .i64 a,.int .i32 r] 57)).alloc (by rw [World.size_alloc,Hg.out]; omega) (.cells #[.int .i32 0,.bool false,.int .i64 0] 48))
 have S1:((w.alloc (.cells #[.int .i64 a,.int .i32 r] 57)).alloc (.cells #[.int .i32 0,.bool false,.int .i64 0] 48)).heap.size=g+1+1:=by rw [World.size_alloc,World.size_alloc,Hg.out]
 generalize hW:((w.alloc (.cells #[.int .i64 a,.int .i32 r] 57)).alloc (.cells #[.int .i32 0,.bool false,.int .i64 0] 48))=W at *
 have HW:=hid hW
 clear hW
 have B1:=hid (Below.refl (g+1+1) W)
 have c0:W.cell? ⟨g,0,none⟩=some (.int .i64 a):=A0.c 0
 have c1:W.cell? ⟨g,1,none⟩=some (.int .i32 r):=A0.c 1
 have A0:=hid A0
 have A1:=hid A1
 have S1:=hid S1
 have B0:=hid B0
 by_cases ha:a=1
 · have ga:(a == 1)=true:=by simpa using ha
   have CZ:=hid (qDY r);rw [HNO.out ha] at CZ;clear ha
   go_enter Try.func50,Try.ntmps50
   go_wp2_with fail
   rw [HW.out,Hg.out];refine (CZ.out W).mono ?_;rintro e w1 ⟨rfl,rfl⟩
   go_wp2
   have HAR:Hid (a=1→isZ r=false):=HNO
   go_loopw [4] (fun kv wr=>∃ (k:Nat),k≤5∧kv=.int .i64 (2+(k:Int))∧wr.heap[g+1+1]? = some (.stringIter sgB (sgo k))∧(∀ j:Nat,j < k→¬ (a=2+(j:Int)∧r=0))∧Below (g+1+1) W wr) (fun _ wr=>sgB.size - wr.iterPos (g+1+1))
   case atStart=>
    refine ⟨0,by omega,rfl,?_,fun j hj=>absurd hj (by omega),B1.out.alloc (by rw [S1.out]; exact Nat.le_refl _) _⟩;rw [← S1.out]; exact heap_alloc_new _ _
   case round=>
    obtain ⟨k,hk,rfl,hit0,hno0,hb0⟩:=hrel;have HIT:=hid hit0;have HN:=hid hno0;have HB:=hid hb0;have hpos0:wr.iterPos (g+1+1)=sgo k:=by simp [World.iterPos,hit0]
    have HPOS:=hid hpos0
    by_cases hlt:k < 5
    · obtain ⟨hd,hsz,hnx1,hle,hps⟩:=sg_step hlt
      have hnx:=Lib.run_next_any_at (P:=Try.prog) wr (g+1+1) sgB (sgo k) 0 HIT.out hsz;rw [hd] at hnx;dsimp only at hnx;rw [hnx1] at hnx;have HBQ0:=Lib.below_iterAt HB.out (Nat.le_refl (g+1+1)) sgB (sgo (k+1));have HBQ:=hid HBQ0;have HITQ:=hid (Lib.iterAt_heap wr (g+1+1) sgB (sgo k) (sgo (k+1)) HIT.out);have d0:(wr.iterAt (g+1+1) sgB (sgo (k+1))).cell? ⟨g,0,none⟩=some (.int .i64 a):=(A0.out.below HBQ0 (by omega)).c 0;have d1:(wr.iterAt (g+1+1) sgB (sgo (k+1))).cell? ⟨g,1,none⟩=some (.int .i32 r):=(A0.out.below HBQ0 (by omega)).c 1;have FX:=A1.out.below HBQ0 (by omega);have hm:sgB.size - sgo (k+1) < sgB.size - sgo k:=by omega
      have HM:=hid hm;clear hit0 hno0 hb0 hpos0 hm hd hnx1 hps HBQ0;generalize hW:wr.iterAt (g+1+1) sgB (sgo (k+1))=W1 at *;have e1:W1.iterPos (g+1+1)=sgo (k+1):=by simp [World.iterPos,HITQ.out]
      have E1:=hid e1;have HWQ:=hid hW;clear hW e1;generalize hp:sgo (k+1)=p1 at *;have HP:=hid hp;clear hp
      by_cases hak:a=2+(k:Int)
      · by_cases hr0:r=0
        · subst hak hr0
          have HV:=hid (show tlI (2+(k:Int),0)=(((sgn k:Nat):Int),false,0)∧mayI (2+(k:Int),0)=true by
           have hm:mayI (2+(k:Int),0)=true:=qC3.2 (.inr ⟨by omega,by omega,rfl⟩);rw [qGN hm,tkI_sign]; exact ⟨rfl,hm⟩)
          generalize sgn k=sk at *;have FE:=FX.set3 (.int .i32 (sk:Int)) (.bool false) (.int .i64 0);have e0:=FE.v 0 rfl;have e1:=FE.v 1 rfl;have e2:=FE.v 2 rfl;have BE:=hid (Below.set3 (B0.out.trans (HBQ.out.mono (by omega))) (show g≤g+1 by omega) (.int .i32 (sk:Int)) (.bool false) (.int .i64 0));have f0:=FX.v 0 rfl;have f1:=FX.v 1 rfl;have f2:=FX.v 2 rfl;have f3:=FX.fr 0;have f4:=FX.fr 1;have f5:=FX.fr 2;clear FE FX
          go_wp2
          generalize hWE:((W1.setCell ⟨g+1,0,none⟩ (.int .i32 (sk:Int))).setCell ⟨g+1,1,none⟩ (.bool false)).setCell ⟨g+1,2,none⟩ (.int .i64 0)=WE at *;rw [HV.out.1,HV.out.2];exact bodyPost_ret (v:=.tuple #[.agg #[.int .i32 (sk:Int),.bool false,.int .i64 0],.bool true]) (by simp [results,Try.results50,go_sem,e0,e1,e2]) rfl ⟨rfl,BE.out⟩
        · have g2:(r == 0)=false:=by simpa using hr0
          have HR:=hid hr0;subst hak;clear hr0 FX
          go_wp2
          go_roundw
          case rel=>
           refine ⟨k+1,by omega,by go_num,by rw [HP.out]; exact HITQ.out,fun j hj=>?_,HBQ.out⟩;exact fun e=>HR.out e.2
          case measure=>rw [HPOS.out,E1.out]; exact HM.out
      · have g2:(a == 2+(k:Int))=false:=by simpa using hak
        have HR:=hid hak;clear hak FX
        go_wp2
        go_roundw
        case rel=>
         refine ⟨k+1,by omega,by go_num,by rw [HP.out]; exact HITQ.out,fun j hj=>?_,HBQ.out⟩
         rcases Nat.lt_or_ge j k with hjk | hjk
         · exact HN.out j hjk
         · obtain rfl:j=k:=by omega
           exact fun e=>HR.out e.1
        case measure=>rw [HPOS.out,E1.out]; exact HM.out
    · obtain rfl:k=5:=by omega
      have hnx:=Lib.run_next_end_at (P:=Try.prog) wr (g+1+1) sgB (sgo 5) 0 HIT.out sg_end;have FX:=A1.out.below hb0 (by omega);have FE:=FX.set3 (.int .i32 0) (.bool false) (.int .i64 0);have e0:=FE.v 0 rfl;have e1:=FE.v 1 rfl;have e2:=FE.v 2 rfl;have BE:=hid (Below.set3 (B0.out.trans (HB.out.mono (by omega))) (show g≤g+1 by omega) (.int .i32 0) (.bool false) (.int .i64 0));have f0:=FX.v 0 rfl;have f1:=FX.v 1 rfl;have f2:=FX.v 2 rfl;have f3:=FX.fr 0;have f4:=FX.fr 1;have f5:=FX.fr 2;have HV:=hid (show mayI (a,r)=false by
       rw [Bool.eq_false_iff];intro h
       rcases qC3.1 h with ⟨h1,h2⟩ | ⟨h1,h2,h3⟩
       · rw [HAR.out h1] at h2; cases h2
       · exact HN.out (a.toNat - 2) (by omega) ⟨by omega,h3⟩)
      clear FE FX hit0 hno0 hb0 hpos0
      go_wp2
      generalize hWE:((wr.setCell ⟨g+1,0,none⟩ (.int .i32 0)).setCell ⟨g+1,1,none⟩ (.bool false)).setCell ⟨g+1,2,none⟩ (.int .i64 0)=WE at *;rw [tlI_no HV.out,HV.out];exact bodyPost_ret (v:=.tuple #[.agg #[.int .i32 0,.bool false,.int .i64 0],.bool false]) (by simp [results,Try.results50,go_sem,e0,e1,e2]) rfl ⟨rfl,BE.out⟩
 · have ga:(a == 1)=false:=by simpa using ha
   clear ha
   go_enter Try.func50,Try.ntmps50
   go_wp2
   rw [HW.out,Hg.out];have HAR:Hid (a=1→isZ r=false):=HNO
   go_loopw [4] (fun kv wr=>∃ (k:Nat),k≤5∧kv=.int .i64 (2+(k:Int))∧wr.heap[g+1+1]? = some (.stringIter sgB (sgo k))∧(∀ j:Nat,j < k→¬ (a=2+(j:Int)∧r=0))∧Below (g+1+1) W wr) (fun _ wr=>sgB.size - wr.iterPos (g+1+1))
   case atStart=>
    refine ⟨0,by omega,rfl,?_,fun j hj=>absurd hj (by omega),B1.out.alloc (by rw [S1.out]; exact Nat.le_refl _) _⟩;rw [← S1.out]; exact heap_alloc_new _ _
   case round=>
    obtain ⟨k,hk,rfl,hit0,hno0,hb0⟩:=hrel;have HIT:=hid hit0;have HN:=hid hno0;have HB:=hid hb0;have hpos0:wr.iterPos (g+1+1)=sgo k:=by simp [World.iterPos,hit0]
    have HPOS:=hid hpos0
    by_cases hlt:k < 5
    · obtain ⟨hd,hsz,hnx1,hle,hps⟩:=sg_step hlt
      have hnx:=Lib.run_next_any_at (P:=Try.prog) wr (g+1+1) sgB (sgo k) 0 HIT.out hsz;rw [hd] at hnx;dsimp only at hnx;rw [hnx1] at hnx;have HBQ0:=Lib.below_iterAt HB.out (Nat.le_refl (g+1+1)) sgB (sgo (k+1));have HBQ:=hid HBQ0;have HITQ:=hid (Lib.iterAt_heap wr (g+1+1) sgB (sgo k) (sgo (k+1)) HIT.out);have d0:(wr.iterAt (g+1+1) sgB (sgo (k+1))).cell? ⟨g,0,none⟩=some (.int .i64 a):=(A0.out.below HBQ0 (by omega)).c 0;have d1:(wr.iterAt (g+1+1) sgB (sgo (k+1))).cell? ⟨g,1,none⟩=some (.int .i32 r):=(A0.out.below HBQ0 (by omega)).c 1;have FX:=A1.out.below HBQ0 (by omega);have hm:sgB.size - sgo (k+1) < sgB.size - sgo k:=by omega
      have HM:=hid hm;clear hit0 hno0 hb0 hpos0 hm hd hnx1 hps HBQ0;generalize hW:wr.iterAt (g+1+1) sgB (sgo (k+1))=W1 at *;have e1:W1.iterPos (g+1+1)=sgo (k+1):=by simp [World.iterPos,HITQ.out]
      have E1:=hid e1;have HWQ:=hid hW;clear hW e1;generalize hp:sgo (k+1)=p1 at *;have HP:=hid hp;clear hp
      by_cases hak:a=2+(k:Int)
      · by_cases hr0:r=0
        · subst hak hr0
          have HV:=hid (show tlI (2+(k:Int),0)=(((sgn k:Nat):Int),false,0)∧mayI (2+(k:Int),0)=true by
           have hm:mayI (2+(k:Int),0)=true:=qC3.2 (.inr ⟨by omega,by omega,rfl⟩);rw [qGN hm,tkI_sign]; exact ⟨rfl,hm⟩)
          generalize sgn k=sk at *;have FE:=FX.set3 (.int .i32 (sk:Int)) (.bool false) (.int .i64 0);have e0:=FE.v 0 rfl;have e1:=FE.v 1 rfl;have e2:=FE.v 2 rfl;have BE:=hid (Below.set3 (B0.out.trans (HBQ.out.mono (by omega))) (show g≤g+1 by omega) (.int .i32 (sk:Int)) (.bool false) (.int .i64 0));have f0:=FX.v 0 rfl;have f1:=FX.v 1 rfl;have f2:=FX.v 2 rfl;have f3:=FX.fr 0;have f4:=FX.fr 1;have f5:=FX.fr 2;clear FE FX
          go_wp2
          generalize hWE:((W1.setCell ⟨g+1,0,none⟩ (.int .i32 (sk:Int))).setCell ⟨g+1,1,none⟩ (.bool false)).setCell ⟨g+1,2,none⟩ (.int .i64 0)=WE at *;rw [HV.out.1,HV.out.2];exact bodyPost_ret (v:=.tuple #[.agg #[.int .i32 (sk:Int),.bool false,.int .i64 0],.bool true]) (by simp [results,Try.results50,go_sem,e0,e1,e2]) rfl ⟨rfl,BE.out⟩
        · have g2:(r == 0)=false:=by simpa using hr0
          have HR:=hid hr0;subst hak;clear hr0 FX
          go_wp2
          go_roundw
          case rel=>
           refine ⟨k+1,by omega,by go_num,by rw [HP.out]; exact HITQ.out,fun j hj=>?_,HBQ.out⟩;exact fun e=>HR.out e.2
          case measure=>rw [HPOS.out,E1.out]; exact HM.out
      · have g2:(a == 2+(k:Int))=false:=by simpa using hak
        have HR:=hid hak;clear hak FX
        go_wp2
        go_roundw
        case rel=>
         refine ⟨k+1,by omega,by go_num,by rw [HP.out]; exact HITQ.out,fun j hj=>?_,HBQ.out⟩
         rcases Nat.lt_or_ge j k with hjk | hjk
         · exact HN.out j hjk
         · obtain rfl:j=k:=by omega
           exact fun e=>HR.out e.1
        case measure=>rw [HPOS.out,E1.out]; exact HM.out
    · obtain rfl:k=5:=by omega
      have hnx:=Lib.run_next_end_at (P:=Try.prog) wr (g+1+1) sgB (sgo 5) 0 HIT.out sg_end;have FX:=A1.out.below hb0 (by omega);have FE:=FX.set3 (.int .i32 0) (.bool false) (.int .i64 0);have e0:=FE.v 0 rfl;have e1:=FE.v 1 rfl;have e2:=FE.v 2 rfl;have BE:=hid (Below.set3 (B0.out.trans (HB.out.mono (by omega))) (show g≤g+1 by omega) (.int .i32 0) (.bool false) (.int .i64 0));have f0:=FX.v 0 rfl;have f1:=FX.v 1 rfl;have f2:=FX.v 2 rfl;have f3:=FX.fr 0;have f4:=FX.fr 1;have f5:=FX.fr 2;have HV:=hid (show mayI (a,r)=false by
       rw [Bool.eq_false_iff];intro h
       rcases qC3.1 h with ⟨h1,h2⟩ | ⟨h1,h2,h3⟩
       · rw [HAR.out h1] at h2; cases h2
       · exact HN.out (a.toNat - 2) (by omega) ⟨by omega,h3⟩)
      clear FE FX hit0 hno0 hb0 hpos0
      go_wp2
      generalize hWE:((wr.setCell ⟨g+1,0,none⟩ (.int .i32 0)).setCell ⟨g+1,1,none⟩ (.bool false)).setCell ⟨g+1,2,none⟩ (.int .i64 0)=WE at *;rw [tlI_no HV.out,HV.out];exact bodyPost_ret (v:=.tuple #[.agg #[.int .i32 0,.bool false,.int .i64 0],.bool false]) (by simp [results,Try.results50,go_sem,e0,e1,e2]) rfl ⟨rfl,BE.out⟩
theorem affTell_c (a r:Int) (w:World):Calls Try.prog 50 #[.agg #[.int .i64 a,.int .i32 r]] w fun e w'=>
 e=.returned (.tuple #[.agg #[.int .i32 (tlI (a,r)).1,.bool (tlI (a,r)).2.1,.int .i64 (tlI (a,r)).2.2],.bool (mayI (a,r))])∧Below w.heap.size w w':=by
 by_cases h:a=1∧isZ r=true
 · obtain ⟨rfl,hz⟩:=h
   have hm:mayI (1,r)=true:=qC3.2 (.inl ⟨rfl,hz⟩);rw [qGN hm,hm,tkI_lit];exact tellLit_c r w hz
 · exact tellSign_c a r w fun ha=>by
    rcases hz:isZ r with _ | _
    · rfl
    · exact absurd ⟨ha,hz⟩ h
end Go.Proofs.Ytohfadegildnaaa
