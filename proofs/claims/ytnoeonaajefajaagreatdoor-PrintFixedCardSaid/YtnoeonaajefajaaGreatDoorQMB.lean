import Derived.Laws.AppendOwnNone
import Derived.Laws.Cover4
import Derived.Handy
import Derived.Test.YtnoeonaajefajaaGreatDoorQMA
set_option linter.all false
set_option maxRecDepth 100000
namespace Go.Proofs.YtnoeonaajefajaaGreatDoor
abbrev Tok:=Int × Bool × Int
def er (t:Tok):Int × Bool:=(t.1,t.2.1)
def scn:List Nat→Nat→Int→List Tok × Int
 | [],_,o=>([],o)
 | [c],a,o=>if c=39 then ([],if o < 0 then (a:Int) else -1) else ([((c:Int),decide (0≤o),(a:Int))],o)
 | c :: d :: cs,a,o=>
  if c=39∧d=39 then ((39,true,(a:Int)) :: (scn cs (a+2) o).1,(scn cs (a+2) o).2)
  else if c=39 then scn (d :: cs) (a+1) (if o < 0 then (a:Int) else -1)
  else (((c:Int),decide (0≤o),(a:Int)) :: (scn (d :: cs) (a+(encN c).length) o).1,(scn (d :: cs) (a+(encN c).length) o).2)
theorem qK5 (a:Nat) (o:Int):scn [] a o=([],o):=rfl
theorem qEF (cs:List Nat) (a:Nat) (o:Int):scn (39 :: 39 :: cs) a o=((39,true,(a:Int)) :: (scn cs (a+2) o).1,(scn cs (a+2) o).2):=by
 simp [scn]
theorem qD7 {cs:List Nat} (h:cs.head?≠some 39) (a:Nat) (o:Int):scn (39 :: cs) a o=scn cs (a+1) (if o < 0 then (a:Int) else -1):=by
 cases cs with
 | nil=>simp [scn]
 | cons d cs=>
  have hd:d≠39:=fun e=>h (by rw [e]; rfl)
  rw [scn,if_neg (fun e=>hd e.2),if_pos rfl]
theorem qCY {c:Nat} (h:c≠39) (cs:List Nat) (a:Nat) (o:Int) :
 scn (c :: cs) a o=(((c:Int),decide (0≤o),(a:Int)) :: (scn cs (a+(encN c).length) o).1,(scn cs (a+(encN c).length) o).2):=by
 cases cs with
 | nil=>simp [scn,h]
 | cons d cs=>rw [scn,if_neg (fun e=>h e.1),if_neg h]
theorem qK6 {P:List Nat→Prop} (h0:P []) (h2:∀ cs,P cs→P (39 :: 39 :: cs)) (h1:∀ cs,cs.head?≠some 39→P cs→P (39 :: cs)) (he:∀ c cs,c≠39→P cs→P (c :: cs)) (cs:List Nat):P cs:=by
 have hgen:∀ (n:Nat) (cs:List Nat),cs.length≤n→P cs:=by
  intro n
  induction n with
  | zero=>intro cs h; rw [List.eq_nil_of_length_eq_zero (by omega:cs.length=0)]; exact h0
  | succ n ih=>
   intro cs h
   cases cs with
   | nil=>exact h0
   | cons c cs=>
    simp only [List.length_cons] at h
    by_cases hc:c=39
    · subst hc
      cases cs with
      | nil=>exact h1 [] (by simp) h0
      | cons d cs=>
       simp only [List.length_cons] at h
       by_cases hd:d=39
       · subst hd; exact h2 cs (ih cs (by omega))
       · exact h1 (d :: cs) (by simp [hd]) (ih _ (by simp only [List.length_cons]; omega))
    · exact he c cs hc (ih cs (by omega))
 exact hgen _ cs (Nat.le_refl _)
theorem scn_range (cs:List Nat):∀ (a:Nat) (o:Int),-1≤o→o≤(a:Int)+(encs cs).length →
 (-1≤(scn cs a o).2∧(scn cs a o).2≤(a:Int)+(encs cs).length)∧∀ t ∈ (scn cs a o).1,0≤t.2.2∧t.2.2≤(a:Int)+(encs cs).length:=by
 induction cs using qK6 with
 | h0=>intro a o h h'; exact ⟨⟨h,h'⟩,by simp [qK5]⟩
 | h2 cs ih=>
  intro a o h h';have e:(encs (39 :: 39 :: cs)).length=2+(encs cs).length:=by
   rw [qAI,qAI,List.length_append,List.length_append]
   show 1+(1+_)=_
   omega
  rw [e] at h' ⊢;rw [qEF];obtain ⟨i1,i2⟩:=ih (a+2) o h (by omega);refine ⟨⟨i1.1,by have:=i1.2; omega⟩,?_⟩;intro t ht
  rcases List.mem_cons.1 ht with rfl | ht
  · refine ⟨?_,?_⟩ <;> dsimp only <;> omega
  · have:=i2 t ht; omega
 | h1 cs hh ih=>
  intro a o h h';have e:(encs (39 :: cs)).length=1+(encs cs).length:=by
   rw [qAI,List.length_append];rfl
  rw [e] at h' ⊢;rw [qD7 hh];obtain ⟨i1,i2⟩:=ih (a+1) (if o < 0 then (a:Int) else -1) (by split <;> omega) (by split <;> omega);refine ⟨⟨i1.1,by have:=i1.2; omega⟩,?_⟩;intro t ht;have:=i2 t ht; omega
 | he c cs hc ih=>
  intro a o h h';have e:(encs (c :: cs)).length=(encN c).length+(encs cs).length:=by rw [qAI,List.length_append]
  rw [e] at h' ⊢;rw [qCY hc];obtain ⟨i1,i2⟩:=ih (a+(encN c).length) o h (by omega);refine ⟨⟨i1.1,by have:=i1.2; omega⟩,?_⟩;intro t ht
  rcases List.mem_cons.1 ht with rfl | ht
  · refine ⟨?_,?_⟩ <;> dsimp only <;> omega
  · have:=i2 t ht; omega
def mayT (t:Tok):Bool:=isZ t.1 && (t.2.1 || !decide (t.1=39))
theorem scn_may (cs:List Nat):∀ (a:Nat) (o:Int),allC cs=true→(scn cs a o).1.all mayT=true:=by
 induction cs using qK6 with
 | h0=>intro a o _; rfl
 | h2 cs ih=>
  intro a o h;rw [qEF,List.all_cons,ih _ _ (qBV.1 (qBV.1 h).2).2];rfl
 | h1 cs hh ih=>intro a o h; rw [qD7 hh]; exact ih _ _ (qBV.1 h).2
 | he c cs hc ih=>
  intro a o h;obtain ⟨h1,h2⟩:=qBV.1 h;rw [qCY hc,List.all_cons,ih _ _ h2,Bool.and_true];simp only [mayT,qBP,h1,Bool.true_and,Bool.or_eq_true,Bool.not_eq_true',decide_eq_false_iff_not];exact .inr (by omega)
theorem scn_same (cs:List Nat):∀ (a a':Nat) (o o':Int),(0≤o↔0≤o')→(scn cs a o).1.map er=(scn cs a' o').1.map er∧(0≤(scn cs a o).2↔0≤(scn cs a' o').2):=by
 induction cs using qK6 with
 | h0=>intro a a' o o' h; exact ⟨rfl,h⟩
 | h2 cs ih=>
  intro a a' o o' h;obtain ⟨i1,i2⟩:=ih (a+2) (a'+2) o o' h;rw [qEF,qEF];exact ⟨by rw [List.map_cons,List.map_cons,i1]; rfl,i2⟩
 | h1 cs hh ih=>
  intro a a' o o' h;rw [qD7 hh,qD7 hh];exact ih _ _ _ _ (by split <;> split <;> omega)
 | he c cs hc ih=>
  intro a a' o o' h;obtain ⟨i1,i2⟩:=ih (a+(encN c).length) (a'+(encN c).length) o o' h;rw [qCY hc,qCY hc];refine ⟨?_,i2⟩;rw [List.map_cons,List.map_cons,i1];simp only [er,decide_eq_decide.2 h]
def dbl (row:List Int):List Int:=row.flatMap fun r=>if r=39 then [39,39] else [r]
theorem dbl_nil:dbl []=[]:=rfl
theorem qDV (r:Int) (row:List Int):dbl (r :: row)=(if r=39 then [39,39] else [r])++dbl row:=by simp [dbl]
theorem qF0 (xs ys:List Int):dbl (xs++ys)=dbl xs++dbl ys:=by simp [dbl]
theorem qK7 (r:Int):dbl [r]=if r=39 then [39,39] else [r]:=by rw [qDV,dbl_nil,List.append_nil]
theorem dbl_len (row:List Int):(dbl row).length≤2 * row.length:=by
 induction row with
 | nil=>simp [dbl_nil]
 | cons r row ih=>rw [qDV,List.length_append]; simp only [List.length_cons]; split <;> simp <;> omega
def inQ (row:List Int):List Int:=if row.all (fun r=>decide (r=39)) then dbl row else 39 :: (dbl row++[39])
theorem qK8 (row:List Int):(inQ row).length≤2 * row.length+2:=by
 have:=dbl_len row
 unfold inQ; split
 · omega
 · simp only [List.length_cons,List.length_append,List.length_nil]; omega
def prt:List Tok→List Int→List Int
 | [],row=>inQ row
 | t :: ts,row=>if t.2.1 then prt ts (row++[t.1]) else inQ row++t.1 :: prt ts []
theorem qI4 (row:List Int):prt [] row=inQ row:=rfl
theorem prt_q {t:Tok} (h:t.2.1=true) (ts:List Tok) (row:List Int):prt (t :: ts) row=prt ts (row++[t.1]):=by rw [prt,if_pos h]
theorem prt_p {t:Tok} (h:t.2.1=false) (ts:List Tok) (row:List Int):prt (t :: ts) row=inQ row++t.1 :: prt ts []:=by rw [prt,if_neg (by rw [h]; decide)]
theorem prt_len (ts:List Tok):∀ row,(prt ts row).length≤2 * row.length+4 * ts.length+2:=by
 induction ts with
 | nil=>intro row; rw [qI4]; have:=qK8 row; simp only [List.length_nil]; omega
 | cons t ts ih=>
  intro row
  rcases ht:t.2.1 with _ | _
  · rw [prt_p ht]
    have:=ih [];have:=qK8 row;simp only [List.length_cons,List.length_append,List.length_nil] at *; omega
  · rw [prt_q ht]
    have:=ih (row++[t.1]);simp only [List.length_cons,List.length_append,List.length_nil] at *; omega
theorem dbl_isZ (row:List Int):(dbl row).all isZ=row.all isZ:=by
 induction row with
 | nil=>rfl
 | cons r row ih=>
  rw [qDV,List.all_append,ih,List.all_cons]
  split
  · rename_i h; subst h; rfl
  · simp
theorem inQ_isZ (row:List Int):(inQ row).all isZ=row.all isZ:=by
 have h39:isZ 39=true:=rfl
 unfold inQ; split
 · exact dbl_isZ row
 · rw [List.all_cons,List.all_append,dbl_isZ,h39]; simp [h39]
theorem prt_isZ (ts:List Tok):∀ row,(prt ts row).all isZ=(row.all isZ && ts.all fun t=>isZ t.1):=by
 induction ts with
 | nil=>intro row; rw [qI4,inQ_isZ]; simp
 | cons t ts ih=>
  intro row
  rcases ht:t.2.1 with _ | _
  · rw [prt_p ht,List.all_append,inQ_isZ,List.all_cons,ih,List.all_cons]; simp
  · rw [prt_q ht,ih,List.all_append,List.all_cons]; simp [Bool.and_assoc]
theorem may_isZ {ts:List Tok} (h:ts.all mayT=true):(ts.all fun t=>isZ t.1)=true:=by
 refine List.all_eq_true.2 fun t ht=>?_
 have:=List.all_eq_true.1 h t ht
 simp only [mayT,Bool.and_eq_true] at this
 exact this.1
theorem qLI (r:Int) (l:List Int):nats (r :: l)=r.toNat :: nats l:=rfl
theorem qAU (xs ys:List Int):nats (xs++ys)=nats xs++nats ys:=by simp [nats]
theorem nats_nil:nats []=[]:=rfl
theorem isZ_39 {r:Int} (h:isZ r=true):r.toNat=39↔r=39:=by have:=qAS.1 h; omega
def sck (cs:List Nat) (b:Bool):List (Int × Bool) × Bool:=((scn cs 0 (if b then 0 else -1)).1.map er,decide (0≤(scn cs 0 (if b then 0 else -1)).2))
theorem qK9 (cs:List Nat) (a:Nat) (o:Int):(scn cs a o).1.map er=(sck cs (decide (0≤o))).1∧decide (0≤(scn cs a o).2)=(sck cs (decide (0≤o))).2:=by
 have h:(0≤o↔0≤(if decide (0≤o)=true then (0:Int) else -1)):=by
  by_cases h:0≤o
  · rw [decide_eq_true h]; simp [h]
  · rw [decide_eq_false h]; simp only [Bool.false_eq_true,if_false]; omega
 obtain ⟨h1,h2⟩:=scn_same cs a 0 o _ h
 exact ⟨h1,decide_eq_decide.2 h2⟩
theorem sck_nil (b:Bool):sck [] b=([],b):=by cases b <;> rfl
theorem qKA (cs:List Nat) (b:Bool):sck (39 :: 39 :: cs) b=((39,true) :: (sck cs b).1,(sck cs b).2):=by
 obtain ⟨h1,h2⟩:=qK9 cs (0+2) (if b then 0 else -1)
 have hb:decide (0≤(if b then (0:Int) else -1))=b:=by cases b <;> rfl
 rw [hb] at h1 h2
 rw [sck,qEF,List.map_cons,h1,h2]; rfl
theorem sck_one {cs:List Nat} (h:cs.head?≠some 39) (b:Bool):sck (39 :: cs) b=sck cs (!b):=by
 obtain ⟨h1,h2⟩:=qK9 cs (0+1) (if (if b then (0:Int) else -1) < 0 then ((0:Nat):Int) else -1)
 have hb:decide (0≤(if (if b then (0:Int) else -1) < 0 then ((0:Nat):Int) else -1)) = !b:=by cases b <;> rfl
 rw [hb] at h1 h2
 rw [sck,qD7 h,h1,h2]
theorem qDW {c:Nat} (h:c≠39) (cs:List Nat) (b:Bool):sck (c :: cs) b=(((c:Int),b) :: (sck cs b).1,(sck cs b).2):=by
 obtain ⟨h1,h2⟩:=qK9 cs (0+(encN c).length) (if b then 0 else -1)
 have hb:decide (0≤(if b then (0:Int) else -1))=b:=by cases b <;> rfl
 rw [hb] at h1 h2
 rw [sck,qCY h,List.map_cons,h1,h2]
 simp only [er,hb]
theorem sck_within {row:List Int} (hz:row.all isZ=true) {rest:List Nat} (hr:rest.head?≠some 39) :
 sck (nats (dbl row)++39 :: rest) true=(row.map (fun r=>(r,true))++(sck rest false).1,(sck rest false).2):=by
 induction row with
 | nil=>rw [dbl_nil,nats_nil,List.nil_append,sck_one hr]; rfl
 | cons r row ih=>
  simp only [List.all_cons,Bool.and_eq_true] at hz;rw [qDV,qAU,List.append_assoc]
  split
  · rename_i e; subst e
    show sck (39 :: 39 :: (nats (dbl row)++39 :: rest)) true=_
    rw [qKA,ih hz.2]; rfl
  · rename_i e
    show sck (r.toNat :: (nats (dbl row)++39 :: rest)) true=_
    rw [qDW (fun h=>e ((isZ_39 hz.1).1 h)),ih hz.2];have:=(qAS.1 hz.1).1;rw [Int.toNat_of_nonneg this]; rfl
theorem sck_row {row:List Int} (hz:row.all isZ=true) (hn:row.all (fun r=>decide (r=39))=false) {rest:List Nat} (hr:rest.head?≠some 39) :
 sck (39 :: (nats (dbl row)++39 :: rest)) false=(row.map (fun r=>(r,true))++(sck rest false).1,(sck rest false).2):=by
 induction row with
 | nil=>cases hn
 | cons r row ih=>
  simp only [List.all_cons,Bool.and_eq_true] at hz;rw [List.all_cons] at hn
  by_cases e:r=39
  · subst e
    rw [qDV,if_pos rfl,qAU,List.append_assoc]
    show sck (39 :: 39 :: 39 :: (nats (dbl row)++39 :: rest)) false=_
    rw [qKA,ih hz.2 (by simpa using hn)]; rfl
  · rw [sck_one]
    · have h:=sck_within (row:=r :: row) (by simp [hz.1,hz.2]) hr
      exact h
    · rw [qDV,if_neg e]
      show (some r.toNat:Option Nat)≠some 39
      intro h;exact e ((isZ_39 hz.1).1 (Option.some.inj h))
theorem sck_all {row:List Int} (hn:row.all (fun r=>decide (r=39))=true) (rest:List Nat) :
 sck (nats (dbl row)++rest) false=(row.map (fun r=>(r,true))++(sck rest false).1,(sck rest false).2):=by
 induction row with
 | nil=>rfl
 | cons r row ih=>
  simp only [List.all_cons,Bool.and_eq_true,decide_eq_true_eq] at hn;obtain ⟨rfl,h2⟩:=hn;rw [qDV,if_pos rfl,qAU,List.append_assoc]
  show sck (39 :: 39 :: (nats (dbl row)++rest)) false=_
  rw [qKA,ih h2]; rfl
theorem sck_inQ {row:List Int} (hz:row.all isZ=true) {rest:List Nat} (hr:rest.head?≠some 39) :
 sck (nats (inQ row)++rest) false=(row.map (fun r=>(r,true))++(sck rest false).1,(sck rest false).2):=by
 unfold inQ; split
 · rename_i h; exact sck_all h rest
 · rename_i h
   rw [qLI,qAU,List.cons_append,List.append_assoc];exact sck_row hz (by simpa using h) hr
def toks (l:List Nat):List Tok × Int × Int:=
 if rst l≠[] then ([],2,badZ l)
 else if 0≤(scn (cps l) 0 (-1)).2 then ([],3,(scn (cps l) 0 (-1)).2)
 else if 400 < (scn (cps l) 0 (-1)).1.length then ([],8,0)
 else ((scn (cps l) 0 (-1)).1,0,0)
theorem qEG {l:List Nat} (hl:∀ b ∈ l,b < 256):(toks l).1.all mayT=true∧(toks l).1.length≤400∧((toks l).2.1≠0→(toks l).1=[]):=by
 unfold toks
 split
 · exact ⟨rfl,by simp,fun _=>rfl⟩
 · split
   · exact ⟨rfl,by simp,fun _=>rfl⟩
   · split
     · exact ⟨rfl,by simp,fun _=>rfl⟩
     · exact ⟨scn_may _ _ _ (qG0 l hl).2.1,by dsimp only; omega,fun h=>absurd rfl h⟩
theorem toks_right {cs:List Nat} (h:allC cs=true) (ho:(scn cs 0 (-1)).2 < 0) (hn:(scn cs 0 (-1)).1.length≤400):toks (encs cs)=((scn cs 0 (-1)).1,0,0):=by
 rw [toks,cps_encs h,if_neg (by simp [rst_encs h]),if_neg (by omega),if_neg (by omega)]
def prtZ (ts:List Tok):ByteArray:=if ts.all mayT then stz (encs (nats (prt ts []))) else stz []
theorem qG1 {ts:List Tok} (h:ts.all mayT=true):prtZ ts=stz (encs (nats (prt ts [])))∧bts (prtZ ts)=encs (nats (prt ts []))∧allC (nats (prt ts []))=true∧(prt ts []).all isZ=true:=by
 have hz:(prt ts []).all isZ=true:=by rw [prt_isZ]; simp only [List.all_nil,Bool.true_and]; exact may_isZ h
 have hc:=qLG hz
 have e:prtZ ts=stz (encs (nats (prt ts []))):=by rw [prtZ,if_pos h]
 exact ⟨e,by rw [e,qAE (qJZ hc)],hc,hz⟩
theorem qFK (l:List Int):(nats l).length=l.length:=by simp [nats]
theorem qLJ (ts:List Tok):(prtZ ts).size≤16 * ts.length+8:=by
 unfold prtZ; split
 · rw [qA9]
   have h1:=qHY (nats (prt ts []));have h2:=prt_len ts [];rw [qFK] at h1;simp only [List.length_nil] at h2;omega
 · rw [qA9]; simp
open Go.RowKit
open Lib (hid)
def tokV (t:Tok):List Value:=[.int .i32 t.1,.bool t.2.1,.int .i64 t.2.2]
def qCL (ts:List Tok):List Value:=ts.flatMap tokV
theorem qF1 (t:Tok) (ts:List Tok):qCL (t :: ts)=tokV t++qCL ts:=rfl
theorem qEH (ts:List Tok):(qCL ts).length=ts.length * 3:=by
 induction ts with
 | nil=>rfl
 | cons t ts ih=>rw [qF1,List.length_append,ih]; simp only [tokV,List.length_cons,List.length_nil]; omega
theorem qCD (ts us:List Tok):qCL (ts++us)=qCL ts++qCL us:=by simp [qCL]
theorem toksV_one (t:Tok):qCL [t]=tokV t:=by simp [qCL]
def tk (ts:List Tok) (k:Nat):Tok:=ts.getD k (0,false,0)
theorem qLK {ts:List Tok} {k:Nat} (h:k < ts.length):tk ts k=ts[k]:=by simp [tk,List.getD,List.getElem?_eq_getElem h]
theorem qI5 (ts:List Tok):∀ (k j:Nat),k < ts.length→j < 3→(qCL ts)[k * 3+j]? = (tokV (tk ts k))[j]?:=by
 induction ts with
 | nil=>intro k j h _; simp at h
 | cons t ts ih=>
  intro k j h hj
  cases k with
  | zero=>
   rw [qF1,List.getElem?_append_left (by show _ < 3; omega)];simp [tk]
  | succ k=>
   rw [qF1,List.getElem?_append_right (by show 3≤_; omega)];rw [show (k+1) * 3+j - (tokV t).length=k * 3+j by show _ - 3=_; omega,ih k j (by simpa using h) hj];simp [tk]
def R32 (t:Tok):Prop:=-2147483648≤t.1∧t.1≤2147483647
theorem r32_may {t:Tok} (h:mayT t=true):R32 t:=by
 simp only [mayT,Bool.and_eq_true] at h
 have:=qAS.1 h.1
 exact ⟨by omega,by omega⟩
def Tks (w:World) (A:Option Addr) (n:Nat) (ts:List Tok):Prop:=qB6 w w.heap.size 3 A n (qCL ts)∧n≤36000000000000∧∀ t ∈ ts,R32 t
section
variable {w w':World} {n:Nat} {A:Option Addr} {ts:List Tok}
theorem Tks.len (h:Tks w A n ts):ts.length=n:=by have:=h.1.1; rw [qEH] at this; omega
theorem Tks.below (h:Tks w A n ts) (hb:Below w.heap.size w w'):Tks w' A n ts:=⟨(h.1.below hb).more hb.size,h.2⟩
theorem Tks.at_ {k:Nat} (h:Tks w A n ts) (hk:k < n):∃ ad,A=some ad∧ad.block < w.heap.size∧w.cell? (ad.add (k * 3))=some (.int .i32 (tk ts k).1)∧w.cell? ⟨(ad.add (k * 3)).block,(ad.add (k * 3)).off+1,none⟩=some (.bool (tk ts k).2.1) ∧
 w.cell? ⟨(ad.add (k * 3)).block,(ad.add (k * 3)).off+2,none⟩=some (.int .i64 (tk ts k).2.2)∧R32 (tk ts k):=by
 obtain ⟨ad,e,hb,hc⟩:=h.1.2 (by omega)
 have hl:k < ts.length:=by rw [h.len]; exact hk
 have f1:=hc (k * 3+1) (.bool (tk ts k).2.1) (by rw [qI5 ts k 1 hl (by omega)]; rfl)
 have f2:=hc (k * 3+2) (.int .i64 (tk ts k).2.2) (by rw [qI5 ts k 2 hl (by omega)]; rfl)
 rw [← qCM] at f1 f2
 refine ⟨ad,e,hb,hc (k * 3) _ ?_,f1,f2,?_⟩
 · have:=qI5 ts k 0 hl (by omega); rw [Nat.add_zero] at this; rw [this]; rfl
 · rw [qLK hl]; exact h.2.2 _ (List.getElem_mem hl)
end
theorem tok_info:(Tryz.prog.info? 58).map (fun i=>(i.zero,i.size,i.bytes))=some (some (.agg #[.int .i32 0,.bool false,.int .i64 0]),3,16):=by kernel_rfl
theorem piece_info:(Tryz.prog.info? 144).map (fun i=>(i.zero,i.size,i.bytes))=some (some .nilIface,1,16):=by kernel_rfl
def OwnT (w:World) (base:Nat) (A:Option Addr) (m c:Nat) (ts:List Tok):Prop:=
 w.ownsRow base 58 3 (.slice A m c) m (qCL ts)∧m≤10000000000∧∀ t ∈ ts,R32 t
section
variable {w w':World} {base m c:Nat} {A:Option Addr} {ts:List Tok}
theorem OwnT.len (h:OwnT w base A m c ts):ts.length=m:=by have:=h.1.1; rw [qEH] at this; omega
theorem OwnT.tks (h:OwnT w base A m c ts):Tks w A m ts:=⟨qB6.of_own h.1,Nat.le_trans h.2.1 (by omega),h.2.2⟩
theorem OwnT.keep {B:Nat} (h:OwnT w base A m c ts) (hb:Below B w w') (hB:B=w.heap.size):OwnT w' base A m c ts:=by
 subst hB
 refine ⟨h.1.kept (row:=none) ⟨hb.os,hb.tape,hb.output,hb.size,fun k hk _=>hb.block k hk⟩ ?_,h.2⟩
 cases hv:(Value.slice A m c).ownBlock <;> simp
end
theorem qCZ (w:World) (base:Nat):OwnT w base none 0 0 []:=⟨World.ownsRow_nil _ _ _ _,by omega,by simp⟩
theorem qAV {w w':World} {base B:Nat} {e:TypeId} {size n:Nat} {v:Value} {xs:List Value} (h:w.ownsRow base e size v n xs) (hb:Below B w w') (hB:B=w.heap.size):w'.ownsRow base e size v n xs:=by
 subst hB
 refine h.kept (row:=none) ⟨hb.os,hb.tape,hb.output,hb.size,fun k hk _=>hb.block k hk⟩ ?_
 cases v.ownBlock <;> simp
def pcV (t:Tok):Value:=.iface (if t.2.1=true then 198 else 196) (.agg #[.int .i32 t.1,.int .i64 t.2.2])
theorem qDI (W:World) (xs:List Value) (e:TypeId):∀ j u,xs[j]? = some u→(W.alloc (.cells xs.toArray e)).cell? ((⟨W.heap.size,0,none⟩:Addr).add j)=some u:=
 (World.ownsRow_lit (base:=0) (e:=e) (size:=xs.length) W xs.toArray 1 (Nat.zero_le _) (by unfold maxLen; omega) (by simp)).cells rfl
theorem qAF {W w0:World} {ops:Array Oper} {rest:List Oper} {o:Oper} {a:Act} {Q:Exit→Act→World→Prop} (hgd:o.guard=none) (s x:Operand) (t:TypeId)
 (ho:o.op=.call { callee:=.builtin .append,args:=#[s,x],argTypes:=#[t,t] }) (ht:Tryz.prog.underlying t=some (.slice 58))
 (base:Nat) (v:Value) (k:Nat) (ts:List Tok) (hs:a.eval s=v) (hown:W.ownsRow base 58 3 v k (qCL ts)) (u:Tok)
 (hx:a.eval x=.slice (some ⟨W.heap.size,0,none⟩) 1 1) (r:Int) (q:Bool) (p:Int) (hu:u=(r,q,p)) (hk:k≤1000000000000) (hb:Below base w0 W) (hbase:base≤W.heap.size)
 (h:∀ v' w',Hid (w'.ownsRow base 58 3 v' (k+1) (qCL (ts++[u])))→Hid (Below base w0 w')→Hid (∀ k,k < W.heap.size→v.ownBlock≠some k→w'.heap[k]? = W.heap[k]?)→wpList Tryz.prog ops Q rest (a.put o.dst v') w') :
 wpList Tryz.prog ops Q (o :: rest) a (W.alloc (.cells #[.int .i32 r,.bool q,.int .i64 p] 58)):=by
 obtain ⟨i0,hi,hz0,hz1,hz2⟩:=info_parts tok_info
 subst hu
 refine wpList_append_own _ hgd s x t ho base 58 i0 _ 3 16 ht hi hz0 hz1 hz2 rfl (by decide) v k _ hs (hown.alloc _) ⟨W.heap.size,0,none⟩ 1 1 [.int .i32 r,.bool q,.int .i64 p] hx rfl (qDI W _ _) ?_ ?_ ?_ ?_ ?_
 · intro v hv
   simp only [List.mem_cons,List.not_mem_nil,or_false] at hv
   rcases hv with rfl | rfl | rfl <;> rfl
 · unfold maxLen; omega
 · omega
 · simp; omega
 · intro v' w' h1 h2 _
   refine h v' w' ?_ ?_ ?_
   · rw [qCD,toksV_one]; exact h1
   · refine (hb.alloc hbase _).grown h2 (by simp; omega) fun j hj=>?_
     exact (hown.lt j hj).1
   · intro k hk hne
     rw [h2.block k (by simp; omega) (fun e=>hne e.symm)]
     show (W.heap.push _)[k]? = _
     rw [Array.getElem?_push_lt hk,Array.getElem?_eq_getElem hk]
theorem qHE {W w0:World} {ops:Array Oper} {rest:List Oper} {o:Oper} {a:Act} {Q:Exit→Act→World→Prop} (hgd:o.guard=none) (s x:Operand) (t:TypeId)
 (ho:o.op=.call { callee:=.builtin .append,args:=#[s,x],argTypes:=#[t,t] }) (ht:Tryz.prog.underlying t=some (.slice 144))
 (base:Nat) (v:Value) (k:Nat) (ts:List Tok) (hs:a.eval s=v) (hown:W.ownsRow base 144 1 v k (ts.map pcV)) (u:Tok)
 (hx:a.eval x=.slice (some ⟨W.heap.size,0,none⟩) 1 1) (T:TypeId) (y:Value) (hu:pcV u=.iface T y) (hk:k≤1000000000000) (hb:Below base w0 W) (hbase:base≤W.heap.size)
 (h:∀ v' w',Hid (w'.ownsRow base 144 1 v' (k+1) ((ts++[u]).map pcV))→Hid (Below base w0 w')→Hid (∀ k,k < W.heap.size→v.ownBlock≠some k→w'.heap[k]? = W.heap[k]?)→wpList Tryz.prog ops Q rest (a.put o.dst v') w') :
 wpList Tryz.prog ops Q (o :: rest) a (W.alloc (.cells #[.iface T y] 144)):=by
 obtain ⟨i0,hi,hz0,hz1,hz2⟩:=info_parts piece_info
 refine wpList_append_own _ hgd s x t ho base 144 i0 .nilIface 1 16 ht hi hz0 hz1 hz2 rfl (by decide) v k _ hs (hown.alloc _) ⟨W.heap.size,0,none⟩ 1 1 [.iface T y] hx rfl (qDI W _ _) ?_ ?_ ?_ ?_ ?_
 · intro v hv
   simp only [List.mem_cons,List.not_mem_nil,or_false] at hv;subst hv; rfl
 · unfold maxLen; omega
 · omega
 · simp; omega
 · intro v' w' h1 h2 _
   refine h v' w' ?_ ?_ ?_
   · rw [List.map_append,List.map_cons,List.map_nil,hu]; exact h1
   · refine (hb.alloc hbase _).grown h2 (by simp; omega) fun j hj=>?_
     exact (hown.lt j hj).1
   · intro k hk hne
     rw [h2.block k (by simp; omega) (fun e=>hne e.symm)]
     show (W.heap.push _)[k]? = _
     rw [Array.getElem?_push_lt hk,Array.getElem?_eq_getElem hk]
theorem qCG {W w0:World} {ops:Array Oper} {rest:List Oper} {o:Oper} {a:Act} {Q:Exit→Act→World→Prop} (hgd:o.guard=none) (s x:Operand) (t:TypeId)
 (ho:o.op=.call { callee:=.builtin .append,args:=#[s,x],argTypes:=#[t,t] }) (ht:Tryz.prog.underlying t=some (.slice 21))
 (base:Nat) (v:Value) (k:Nat) (xs:List Int) (hs:a.eval s=v) (hown:W.ownsRow base 21 1 v k (i32s xs)) (V:Value) (m base':Nat) (ys:List Int)
 (hx:a.eval x=V) (hr:W.ownsRow base' 21 1 V m (i32s ys)) (hk:k+m≤1000000000000) (hb:Below base w0 W) (hbase:base≤W.heap.size)
 (h:∀ v' w',Hid (w'.ownsRow base 21 1 v' (k+m) (i32s (xs++ys)))→Hid (Below base w0 w')→Hid (∀ k,k < W.heap.size→v.ownBlock≠some k→w'.heap[k]? = W.heap[k]?)→wpList Tryz.prog ops Q rest (a.put o.dst v') w') :
 wpList Tryz.prog ops Q (o :: rest) a W:=by
 obtain ⟨i0,hi,hz0,hz1,hz2⟩:=info_parts i32_info
 have hl:ys.length=m:=by have:=hr.1; simpa [qDT] using this
 rcases hr.2 with ⟨rfl,rfl⟩ | ⟨g,cap,cur,rfl,_,hg,hnc,hcm,hcs,htake⟩
 · have:ys=[]:=List.eq_nil_of_length_eq_zero hl
   subst this;refine wpList_append_own_none hgd s x t ho base 21 i0 1 ht hi v k _ hs hown hx ?_;refine h v W ?_ hb fun _ _ _=>rfl
   rw [List.append_nil]; exact hown
 · refine wpList_append_own _ hgd s x t ho base 21 i0 (.int .i32 0) 1 4 ht hi hz0 hz1 hz2 rfl (by decide) v k _ hs hown ⟨g,0,none⟩ m cap (i32s ys) hx (by rw [qDT,hl,Nat.mul_one]) (hr.cells rfl) (i32s_one _) ?_ ?_ hbase ?_
   · unfold maxLen; omega
   · omega
   · intro v' w' h1 h2 _
     refine h v' w' ?_ ?_ ?_
     · rw [qI3]; exact h1
     · exact hb.grown h2 hbase fun j hj=>(hown.lt j hj).1
     · exact fun k hk hne=>h2.block k hk (fun e=>hne e.symm)
theorem own_lit_i32 (W:World) (base:Nat) (hb:base≤W.heap.size) (r:Int):(W.alloc (.cells #[.int .i32 r] 21)).ownsRow base 21 1 (.slice (some ⟨W.heap.size,0,none⟩) 1 1) 1 (i32s [r]):=
 World.ownsRow_lit W _ 1 hb (by unfold maxLen; omega) rfl
theorem point_c (r a:Int) (w:World):Calls Tryz.prog 163 #[.agg #[.int .i32 r,.int .i64 a]] w fun e w'=>e=.returned (.int .i32 r)∧Below w.heap.size w w':=by
 go_enter Tryz.func163,Tryz.ntmps163
 go_wp2
 go_ret
 exact ⟨rfl,(Below.refl _ _).alloc (Nat.le_refl _) _⟩
def tokG (t:Tok):Value:=.agg #[.int .i32 t.1,.bool t.2.1,.int .i64 t.2.2]
theorem isQ_yes (W:World) (v:Value):(Instr.typeAssert (.iface 198 v) 144 198 true).run Tryz.prog W=.ok (.tuple #[v,.bool true]) W:=by kernel_rfl
theorem isQ_no (W:World) (v:Value):(Instr.typeAssert (.iface 196 v) 144 198 true).run Tryz.prog W=.ok (.tuple #[.agg #[.int .i32 0,.int .i64 0],.bool false]) W:=by kernel_rfl
theorem isP_yes (W:World) (v:Value):(Instr.typeAssert (.iface 196 v) 144 196 true).run Tryz.prog W=.ok (.tuple #[v,.bool true]) W:=by kernel_rfl
theorem qJ5 (h:196 < Tryz.prog.types.size) (x y:Value):List.take (Tryz.prog.types[196]'h).size [x,y]=[x,y]:=by kernel_rfl
attribute [local go_sem] qJ5
theorem tell_p (r a:Int) (w:World):Calls Tryz.prog 122 #[.iface 196 (.agg #[.int .i32 r,.int .i64 a])] w fun e w'=>e=.returned (tokG (r,false,a))∧Below w.heap.size w w':=by
 have h1:=isQ_no
 go_enter Tryz.func122,Tryz.ntmps122
 go_wp2
 exact bodyPost_ret (v:=tokG (r,false,a)) (by simp [results,Tryz.results122,go_sem,tokG]) rfl ⟨rfl,by go_grown⟩
theorem tell_q (r a:Int) (w:World):Calls Tryz.prog 122 #[.iface 198 (.agg #[.int .i32 r,.int .i64 a])] w fun e w'=>e=.returned (tokG (r,true,a))∧Below w.heap.size w w':=by
 have h1:=isQ_yes
 go_enter Tryz.func122,Tryz.ntmps122
 go_wp2
 exact bodyPost_ret (v:=tokG (r,true,a)) (by simp [results,Tryz.results122,go_sem,tokG]) rfl ⟨rfl,by go_grown⟩
theorem tell_c (t:Tok) (w:World):Calls Tryz.prog 122 #[pcV t] w fun e w'=>e=.returned (.agg #[.int .i32 t.1,.bool t.2.1,.int .i64 t.2.2])∧Below w.heap.size w w':=by
 obtain ⟨r,q,a⟩:=t
 cases q
 · exact tell_p r a w
 · exact tell_q r a w
theorem take_p (r a:Int) (w:World):Calls Tryz.prog 162 #[.agg #[.int .i32 r,.bool false,.int .i64 a]] w fun e w'=>e=.returned (.iface 196 (.agg #[.int .i32 r,.int .i64 a]))∧Below w.heap.size w w':=by
 go_enter Tryz.func162,Tryz.ntmps162
 go_wp2
 go_ret
 exact ⟨rfl,by go_grown⟩
theorem take_q (r a:Int) (w:World):Calls Tryz.prog 162 #[.agg #[.int .i32 r,.bool true,.int .i64 a]] w fun e w'=>e=.returned (.iface 198 (.agg #[.int .i32 r,.int .i64 a]))∧Below w.heap.size w w':=by
 go_enter Tryz.func162,Tryz.ntmps162
 go_wp2
 go_ret
 exact ⟨rfl,by go_grown⟩
theorem keep_c (W w0:World) (base:Nat) (v:Value) (m:Nat) (L:List Tok) (t:Tok) (T:TypeId) (y:Value) (ht:pcV t=.iface T y) (h:W.ownsRow base 144 1 v m ((L.take 401).map pcV)) (hbase:base≤W.heap.size) (hb:Below base w0 W) :
 Calls Tryz.prog 172 #[v,.iface T y] W fun e w'=>∃ v' m',e=.returned v'∧Hid (w'.ownsRow base 144 1 v' m' (((L++[t]).take 401).map pcV))∧Hid (Below base w0 w')∧Hid (∀ k,k < W.heap.size→v.ownBlock≠some k→w'.heap[k]? = W.heap[k]?):=by
 have hl:(L.take 401).length=m:=by have:=h.1; simpa using this
 obtain ⟨A,c,hA⟩:=qAJ h
 rw [List.length_take] at hl
 by_cases hm:m≤400
 · have hL:L.take 401=L:=List.take_of_length_le (by omega)
   have hL':(L++[t]).take 401=L++[t]:=List.take_of_length_le (by rw [List.length_append]; simp; omega);rw [hL'];rw [hL] at h;have H:=hid h;have HB:=hid hb;have HT:=hid ht;subst hA;clear h hb hL hL' hl ht
   go_enter Tryz.func172,Tryz.ntmps172
   go_wp2_with (at_builtin; go_must (refine qHE rfl (.tmp 9) (.tmp 11) _ rfl Tryz.underlying140 base (.slice A m c) m L rfl H.out t rfl _ _ HT.out (by omega) HB.out hbase ?_))
   intro v' w' h1 h2 h3
   go_wp2
   go_ret
   have h4:=hid (show w'.ownsRow base 144 1 v' (m+1) ((L++[t]).map pcV) by rw [List.map_append]; exact h1.out);exact ⟨v',m+1,rfl,h4,h2,h3⟩
 · have hL':(L++[t]).take 401=L.take 401:=by
    rw [List.take_append_of_le_length (by omega)]
   rw [hL'];have H:=hid h;have HB:=hid hb;have hgt:decide ((400:Int) < (m:Int))=true:=decide_eq_true (by omega);subst hA;clear h hb hL' hl ht
   go_enter Tryz.func172,Tryz.ntmps172
   go_wp2
   go_ret
   exact ⟨_,_,rfl,H,HB,hid fun _ _ _=>rfl⟩
theorem qF9 (zs:List Int) {k:Nat} (h:k < zs.length):zs.take (k+1)=zs.take k++[zs.getD k 0]:=by
 rw [List.take_succ_eq_append_getElem h,List.getD,List.getElem?_eq_getElem h]; rfl
set_option maxHeartbeats 1000000 in
theorem qJ6 (A:Option Addr) (n c:Nat) (zs:List Int) (w:World) (h:Rns w A n zs) (hn:n≤1000000000):Calls Tryz.prog 164 #[.slice A n c] w fun e w'=>
 ∃ v m,e=.returned v∧Hid (w'.ownsRow w.heap.size 21 1 v m (i32s (inQ zs)))∧m≤2 * n+2∧Hid (Below w.heap.size w w'):=by
 have HL:=hid h.len
 have H:=hid h
 clear h
 generalize hg:w.heap.size=g at *
 have Hg:=hid hg
 clear hg
 have B0:=hid (show Below g w w by rw [← Hg.out]; exact Below.refl _ _)
 go_enter Tryz.func164,Tryz.ntmps164
 go_wp2
 go_loopw [3,4,9] (fun v ov iv wr=>∃ (k m:Nat),k≤n∧iv=.int .i64 (k:Int)∧ov=.bool (!(zs.take k).all (fun r=>decide (r=39)))∧m≤2 * k∧wr.ownsRow g 21 1 v m (i32s (dbl (zs.take k)))∧Below g w wr) (fun _ _ iv _=>n - (intOf iv).toNat)
 case atStart=>exact ⟨0,0,Nat.zero_le _,rfl,rfl,by omega,World.ownsRow_nil _ _ _ _,B0.out⟩
 case round=>
  obtain ⟨k,m,hk,rfl,rfl,hm,ho0,hb0⟩:=hrel;have HO:=hid ho0;have HB:=hid hb0;have hgs:g≤wr.heap.size:=by have:=hb0.size; have:=Hg.out; omega
  have HR:=hid (H.out.below (w':=wr) (by rw [Hg.out]; exact hb0));clear ho0 hb0
  by_cases hlt:k < n
  · obtain ⟨ad,rfl,_,hc,_,_⟩:=HR.out.at_ hlt
    have HS:=hid (qF9 zs (by rw [HL.out]; exact hlt));generalize zs.getD k 0=r at hc HS
    by_cases hr:r=39
    · subst hr
      go_wp2_with (at_builtin; go_must (refine qAT rfl (.tmp 15) (.tmp 16) _ rfl Tryz.underlying85 g u3 m _ rfl HO.out _ rfl 39 rfl (by omega) HB.out hgs ?_))
      intro v1 w1 ho1 hb1 _;have hgs1:g≤w1.heap.size:=by have:=hb1.out.size; have:=Hg.out; omega
      go_wp2_with (at_builtin; go_must (refine qAT rfl (.tmp 18) (.tmp 20) _ rfl Tryz.underlying85 g v1 (m+1) _ rfl ho1.out _ rfl 39 rfl (by omega) hb1.out hgs1 ?_))
      intro v2 w2 ho2 hb2 _
      go_wp2
      go_roundw
      case rel=>
       refine ⟨k+1,m+1+1,by omega,by go_num,?_,by omega,?_,hb2.out⟩
       · rw [HS.out,List.all_append]; simp
       · rw [HS.out,qF0,qK7,if_pos rfl]
         exact ho2.out
      case measure=>simp [intOf]; omega
    · go_wp2_with (at_builtin; go_must (refine qAT rfl (.tmp 18) (.tmp 20) _ rfl Tryz.underlying85 g u3 m _ rfl HO.out _ rfl r rfl (by omega) HB.out hgs ?_))
      intro v2 w2 ho2 hb2 _
      go_wp2
      go_roundw
      case rel=>
       refine ⟨k+1,m+1,by omega,by go_num,?_,by omega,?_,hb2.out⟩
       · rw [HS.out,List.all_append]; simp [hr]
       · rw [HS.out,qF0,qK7,if_neg hr]
         exact ho2.out
      case measure=>simp [intOf]; omega
  · have hT:zs.take k=zs:=List.take_of_length_le (by rw [HL.out]; omega)
    rw [hT] at HO;rw [hT];clear hT
    rcases ha:zs.all (fun r=>decide (r=39)) with _ | _
    · have HQ:=hid (show inQ zs=[39]++dbl zs++[39] by rw [inQ,ha]; rfl)
      clear ha;have hgw:g≤(wr.alloc (.cells #[.int .i32 39] 21)).heap.size:=by simp; omega
      have HB1:=hid (HB.out.alloc hgs (.cells #[.int .i32 39] 21));have HO1:=hid (HO.out.alloc (.cells #[.int .i32 39] 21));have HE1:=hid (own_lit_i32 wr g hgs 39)
      go_wp2_with (at_builtin; go_must (refine qCG rfl (.tmp 26) (.tmp 27) _ rfl Tryz.underlying85 g _ 1 [39] rfl HE1.out u3 m g _ rfl HO1.out (by omega) HB1.out hgw ?_))
      intro v1 w1 ho1 hb1 _;have hgs1:g≤w1.heap.size:=by have:=hb1.out.size; have:=Hg.out; omega
      go_wp2_with (at_builtin; go_must (refine qAT rfl (.tmp 28) (.tmp 29) _ rfl Tryz.underlying85 g v1 (1+m) _ rfl ho1.out _ rfl 39 rfl (by omega) hb1.out hgs1 ?_))
      intro v2 w2 ho2 hb2 _
      go_wp2
      go_ret
      rw [HQ.out];exact ⟨_,_,rfl,ho2,by omega,hb2⟩
    · have HQ:=hid (show inQ zs=dbl zs by rw [inQ,ha]; rfl)
      clear ha
      go_wp2
      go_ret
      rw [HQ.out];exact ⟨_,_,rfl,HO,by omega,HB⟩
def Rem (s:ByteArray) (p:Nat) (cs:List Nat):Prop:=p≤s.size∧(bts s).drop p=encs cs∧allC cs=true
theorem Rem.zero {s:ByteArray} (h:rst (bts s)=[]):Rem s 0 (cps (bts s)):=⟨Nat.zero_le _,qGR (qAO s) h,(qG0 _ (qAO s)).2.1⟩
theorem Rem.len {s:ByteArray} {p:Nat} {cs:List Nat} (h:Rem s p cs):p+(encs cs).length=s.size:=by
 have:=congrArg List.length h.2.1
 rw [List.length_drop,qA1] at this
 have:=h.1
 omega
theorem Rem.none {s:ByteArray} {p:Nat} (h:Rem s p []):¬ p < s.size:=by
 have:=h.len
 rw [encs_nil] at this
 simp at this; omega
theorem Rem.some {s:ByteArray} {p:Nat} {c:Nat} {cs:List Nat} (h:Rem s p (c :: cs)) :
 isC c=true∧Rem s (p+(encN c).length) cs∧Utf8.decode s p=(c,(encN c).length)∧p < s.size∧1≤(encN c).length:=by
 obtain ⟨h1,h2⟩:=qBV.1 h.2.2
 have hl:=h.len
 have hp:=qCB c
 rw [qAI,List.length_append] at hl
 refine ⟨h1,⟨by omega,?_,h2⟩,?_,by omega,hp⟩
 · rw [← List.drop_drop,h.2.1,qAI,List.drop_append_of_le_length (Nat.le_refl _),List.drop_length,List.nil_append]
 · rw [qCN,h.2.1,qAI,dec_enc h1]
theorem encs_39 {cs:List Nat} {l:List Nat} (h:encs cs=39 :: l):∃ cs',cs=39 :: cs'∧encs cs'=l:=by
 cases cs with
 | nil=>cases h
 | cons c cs=>
  rw [qAI] at h
  rcases qBA c with ⟨_,e⟩ | ⟨_,_,e⟩ | ⟨_,_,e⟩ | ⟨_,e⟩ <;> rw [e] at h <;> simp only [List.cons_append,List.nil_append,List.cons.injEq] at h
  · obtain ⟨rfl,h⟩:=h; exact ⟨cs,rfl,h⟩
  all_goals (exfalso; omega)
def twoS:ByteArray:=⟨#[39,39]⟩
theorem bts_two:bts twoS=[39,39]:=rfl
theorem Rem.two {s:ByteArray} {p:Nat} {cs:List Nat} (h:Rem s p cs):pfx twoS (s.extract p s.size)=true↔∃ cs',cs=39 :: 39 :: cs':=by
 rw [pfx_iff,qB7,h.2.1,bts_two]
 constructor
 · rintro ⟨r,hr⟩
   obtain ⟨c1,rfl,h1⟩:=encs_39 hr;obtain ⟨c2,rfl,_⟩:=encs_39 h1;exact ⟨c2,rfl⟩
 · rintro ⟨cs',rfl⟩
   exact ⟨encs cs',by rw [qAI,qAI]; rfl⟩
def St (F:List Tok × Int) (L:List Tok) (p nx:Nat) (cs:List Nat) (o:Int):Prop:=
 (nx≤p∧F=(L++(scn cs p o).1,(scn cs p o).2))∨(nx=p+1∧∃ cs',cs=39 :: cs'∧F=(L++(scn cs' (p+1) o).1,(scn cs' (p+1) o).2))
section
variable {F:List Tok × Int} {L:List Tok} {p nx:Nat} {cs:List Nat} {o:Int}
theorem St.zero (cs:List Nat):St (scn cs 0 (-1)) [] 0 0 cs (-1):=.inl ⟨Nat.le_refl _,by rw [List.nil_append]⟩
theorem St.end_ (h:St F L p nx [] o):F=(L,o):=by
 rcases h with ⟨_,h⟩ | ⟨_,cs',h,_⟩
 · rw [h,qK5,List.append_nil]
 · cases h
theorem St.skip {c:Nat} (h:St F L p nx (c :: cs) o) (hp:p < nx):c=39∧St F L (p+1) nx cs o:=by
 rcases h with ⟨h,_⟩ | ⟨h1,cs',h,h2⟩
 · omega
 · cases h
   exact ⟨rfl,.inl ⟨by omega,h2⟩⟩
theorem St.pair (h:St F L p nx (39 :: 39 :: cs) o) (hp:nx≤p):St F (L++[(39,true,(p:Int))]) (p+1) (p+2) (39 :: cs) o:=by
 rcases h with ⟨_,h⟩ | ⟨h,_⟩
 · refine .inr ⟨rfl,cs,rfl,?_⟩
   rw [h,qEF,List.append_assoc]; rfl
 · omega
theorem St.opens (h:St F L p nx (39 :: cs) o) (hp:nx≤p) (hc:cs.head?≠some 39) (ho:o < 0):St F L (p+1) nx cs (p:Int):=by
 rcases h with ⟨_,h⟩ | ⟨h,_⟩
 · refine .inl ⟨by omega,?_⟩
   rw [h,qD7 hc,if_pos ho]
 · omega
theorem St.close (h:St F L p nx (39 :: cs) o) (hp:nx≤p) (hc:cs.head?≠some 39) (ho:¬ o < 0):St F L (p+1) nx cs (-1):=by
 rcases h with ⟨_,h⟩ | ⟨h,_⟩
 · refine .inl ⟨by omega,?_⟩
   rw [h,qD7 hc,if_neg ho]
 · omega
theorem St.other {c:Nat} (h:St F L p nx (c :: cs) o) (hp:nx≤p) (hc:c≠39):St F (L++[((c:Int),decide (0≤o),(p:Int))]) (p+(encN c).length) nx cs o:=by
 rcases h with ⟨_,h⟩ | ⟨h,_⟩
 · refine .inl ⟨by omega,?_⟩
   rw [h,qCY hc,List.append_assoc]; rfl
 · omega
end
theorem not_pair {cs:List Nat} (h:¬ ∃ cs',39 :: cs=39 :: 39 :: cs'):cs.head?≠some 39:=by
 intro e
 cases cs with
 | nil=>cases e
 | cons c cs=>cases e; exact h ⟨cs,rfl⟩
set_option maxHeartbeats 2000000 in
theorem split_c (s:ByteArray) (w:World) (hs:s.size≤10000000000) (hr:rst (bts s)=[]):Calls Tryz.prog 121 #[.string s] w fun e w'=>
 ∃ A m c,e=.returned (.tuple #[.slice A m c,.int .i64 (scn (cps (bts s)) 0 (-1)).2])∧Hid (w'.ownsRow w.heap.size 144 1 (.slice A m c) m (((scn (cps (bts s)) 0 (-1)).1.take 401).map pcV))∧Hid (Below w.heap.size w w'):=by
 have R0:=hid (Rem.zero hr)
 have S0:=hid (St.zero (cps (bts s)))
 generalize scn (cps (bts s)) 0 (-1)=F at *
 generalize cps (bts s)=cs0 at *
 clear hr
 generalize hg:w.heap.size=g at *
 have Hg:=hid hg
 clear hg
 have B0:=hid (show Below g w w by rw [← Hg.out]; exact Below.refl _ _)
 go_enter Tryz.func121,Tryz.ntmps121
 go_wp2
 rw [Hg.out]
 go_loopw [2,3,4] (fun v ov nv wr=>∃ (p nx:Nat) (cs:List Nat) (L:List Tok) (o:Int) (m:Nat),Rem s p cs∧St F L p nx cs o∧ov=.int .i64 o∧nv=.int .i64 (nx:Int)∧wr.heap[g]? = some (.stringIter s p) ∧
  wr.ownsRow g 144 1 v m ((L.take 401).map pcV)∧Below g w wr) (fun _ _ _ wr=>s.size - wr.iterPos g)
 case atStart=>
  refine ⟨0,0,cs0,[],-1,0,R0.out,S0.out,rfl,rfl,?_,World.ownsRow_nil _ _ _ _,B0.out.alloc (by rw [Hg.out]; exact Nat.le_refl _) _⟩;rw [← Hg.out]; exact heap_alloc_new w _
 case round=>
  obtain ⟨p,nx,cs,L,o,m,hr0,hs0,rfl,rfl,hit0,ho0,hb0⟩:=hrel;have HR:=hid hr0;have HS:=hid hs0;have HIT:=hid hit0;have HO:=hid ho0;have HB:=hid hb0;have hple:=hr0.1;have hpos0:wr.iterPos g=p:=by simp [World.iterPos,hit0]
  have HPOS:=hid hpos0;have hgq:g < wr.heap.size:=(Array.getElem?_eq_some_iff.1 hit0).1;clear hr0 hs0 hit0 ho0 hb0 hpos0
  cases cs with
  | nil=>
   have hlt:=HR.out.none;have hnx:=Lib.run_next_end_at (P:=Tryz.prog) wr g s p 0 HIT.out hlt
   go_wp2
   go_ret2
   obtain ⟨A,c,hA⟩:=qAJ HO.out;subst hA;rw [HS.out.end_];exact ⟨A,m,c,rfl,HO,HB⟩
  | cons c cs=>
   obtain ⟨hc,hr1,hd,hlt,hl1⟩:=HR.out.some;have hnx:=Lib.run_next_any_at (P:=Tryz.prog) wr g s p 0 HIT.out hlt;rw [hd] at hnx;have HR1:=hid hr1;have HBQ:=hid (Lib.below_iterAt HB.out (Nat.le_refl g) s (p+(encN c).length));have HITQ:=hid (Lib.iterAt_heap wr g s p (p+(encN c).length) HIT.out);have HOQ:=hid (own_iterAt HO.out HIT.out (p+(encN c).length));have hqs:g < (wr.iterAt g s (p+(encN c).length)).heap.size:=by rw [Lib.iterAt_size]; omega
   have hcle:=qFZ hc;clear hr1 hd
   by_cases hsk:p < nx
   · obtain ⟨h39,hs1⟩:=HS.out.skip hsk
     have HS1:=hid hs1;subst h39;have hL:(encN 39).length=1:=rfl;rw [hL] at hnx HR1 HBQ HITQ HOQ hqs;clear hs1 hL;generalize hW:wr.iterAt g s (p+1)=W at *;have HW:=hid hW;clear hW
     go_wp2
     go_roundw
     case rel=>
      refine ⟨p+1,nx,cs,L,o,m,HR1.out,HS1.out,rfl,rfl,?_,HOQ.out.alloc _,HBQ.out.alloc (Nat.le_of_lt hqs) _⟩;rw [heap_alloc_old W _ hqs]; exact HITQ.out
     case measure=>
      have e1:(W.alloc (.cells #[.int .i32 39,.int .i64 (p:Int)] 196)).iterPos g=p+1:=by simp only [World.iterPos]; rw [heap_alloc_old W _ hqs,HITQ.out]
      rw [HPOS.out,e1]; omega
   · have hnp:nx≤p:=Nat.le_of_not_lt hsk
     have hez:(s.extract p s.size).size≤1000000000000000:=by rw [ByteArray.size_extract]; omega
     by_cases hpair:∃ cs',c :: cs=39 :: 39 :: cs'
     · have hpf:pfx ⟨#[39,39]⟩ (s.extract p s.size)=true:=HR.out.two.2 hpair
       obtain ⟨cs',hcs⟩:=hpair
       cases hcs
       have HS1:=hid (HS.out.pair hnp);have hL:(encN 39).length=1:=rfl;rw [hL] at hnx HR1 HBQ HITQ HOQ hqs;clear hL;generalize hW:wr.iterAt g s (p+1)=W at *;have HW:=hid hW;clear hW;have HOA:=hid (HOQ.out.alloc (.cells #[.int .i32 39,.int .i64 (p:Int)] 196));have HBA:=hid (HBQ.out.alloc (Nat.le_of_lt hqs) (.cells #[.int .i32 39,.int .i64 (p:Int)] 196));have HITA:=hid (show (W.alloc (.cells #[.int .i32 39,.int .i64 (p:Int)] 196)).heap[g]? = some (.stringIter s (p+1)) by rw [heap_alloc_old W _ hqs]; exact HITQ.out);have hqa:g < (W.alloc (.cells #[.int .i32 39,.int .i64 (p:Int)] 196)).heap.size:=by simp; omega
       go_wp2_with fail
       refine (qBR (s.extract p s.size) ⟨#[39,39]⟩ _ hez (by decide)).mono ?_;rintro e w1 ⟨rfl,rfl⟩;rw [hpf]
       go_wp2_with fail
       refine (keep_c _ w g u2 m L (39,true,(p:Int)) 198 _ rfl HOA.out (Nat.le_of_lt hqa) HBA.out).mono ?_;rintro e w2 ⟨v2,m2,rfl,h1,h2,h3⟩;have HIT2:=hid ((h3.out g hqa (qDU HOA.out HITA.out)).trans HITA.out);clear h3
       go_wp2
       go_roundw
       case rel=>exact ⟨p+1,(p+2),(39 :: cs'),L++[(39,true,(p:Int))],o,m2,HR1.out,HS1.out,rfl,by go_num,HIT2.out,h1.out,h2.out⟩
       case measure=>
        have e1:w2.iterPos g=p+1:=by simp only [World.iterPos]; rw [HIT2.out]
        rw [HPOS.out,e1]; omega
     · have hpf:pfx ⟨#[39,39]⟩ (s.extract p s.size)=false:=by
        rw [Bool.eq_false_iff]; exact fun h=>hpair (HR.out.two.1 h)
       by_cases hc39:c=39
       · subst hc39
         have hh:=not_pair hpair
         by_cases hneg:o < 0
         · have hdo:decide (o < 0)=true:=decide_eq_true hneg
           have HS1:=hid (HS.out.opens hnp hh hneg);have hL:(encN 39).length=1:=rfl;rw [hL] at hnx HR1 HBQ HITQ HOQ hqs;clear hL;generalize hW:wr.iterAt g s (p+1)=W at *;have HW:=hid hW;clear hW;have HOA:=hid (HOQ.out.alloc (.cells #[.int .i32 39,.int .i64 (p:Int)] 196));have HBA:=hid (HBQ.out.alloc (Nat.le_of_lt hqs) (.cells #[.int .i32 39,.int .i64 (p:Int)] 196));have HITA:=hid (show (W.alloc (.cells #[.int .i32 39,.int .i64 (p:Int)] 196)).heap[g]? = some (.stringIter s (p+1)) by rw [heap_alloc_old W _ hqs]; exact HITQ.out);have hqa:g < (W.alloc (.cells #[.int .i32 39,.int .i64 (p:Int)] 196)).heap.size:=by simp; omega
           go_wp2_with fail
           refine (qBR (s.extract p s.size) ⟨#[39,39]⟩ _ hez (by decide)).mono ?_;rintro e w1 ⟨rfl,rfl⟩;rw [hpf]
           go_wp2
           go_roundw
           case rel=>exact ⟨p+1,nx,cs,L,(p:Int),m,HR1.out,HS1.out,rfl,rfl,HITA.out,HOA.out,HBA.out⟩
           case measure=>
            have e1:(W.alloc (.cells #[.int .i32 39,.int .i64 (p:Int)] 196)).iterPos g=p+1:=by simp only [World.iterPos]; rw [HITA.out]
            rw [HPOS.out,e1]; omega
         · have hdo:decide (o < 0)=false:=decide_eq_false hneg
           have HS1:=hid (HS.out.close hnp hh hneg);have hL:(encN 39).length=1:=rfl;rw [hL] at hnx HR1 HBQ HITQ HOQ hqs;clear hL;generalize hW:wr.iterAt g s (p+1)=W at *;have HW:=hid hW;clear hW;have HOA:=hid (HOQ.out.alloc (.cells #[.int .i32 39,.int .i64 (p:Int)] 196));have HBA:=hid (HBQ.out.alloc (Nat.le_of_lt hqs) (.cells #[.int .i32 39,.int .i64 (p:Int)] 196));have HITA:=hid (show (W.alloc (.cells #[.int .i32 39,.int .i64 (p:Int)] 196)).heap[g]? = some (.stringIter s (p+1)) by rw [heap_alloc_old W _ hqs]; exact HITQ.out);have hqa:g < (W.alloc (.cells #[.int .i32 39,.int .i64 (p:Int)] 196)).heap.size:=by simp; omega
           go_wp2_with fail
           refine (qBR (s.extract p s.size) ⟨#[39,39]⟩ _ hez (by decide)).mono ?_;rintro e w1 ⟨rfl,rfl⟩;rw [hpf]
           go_wp2
           go_roundw
           case rel=>exact ⟨p+1,nx,cs,L,(-1),m,HR1.out,HS1.out,rfl,rfl,HITA.out,HOA.out,HBA.out⟩
           case measure=>
            have e1:(W.alloc (.cells #[.int .i32 39,.int .i64 (p:Int)] 196)).iterPos g=p+1:=by simp only [World.iterPos]; rw [HITA.out]
            rw [HPOS.out,e1]; omega
       · have hb39:((c:Int) == 39)=false:=by simp; omega
         have HS1:=hid (HS.out.other hnp hc39);generalize hLc:(encN c).length=LC at *;generalize hW:wr.iterAt g s (p+LC)=W at *;have HW:=hid hW;clear hW
         by_cases hq:0≤o
         · have hdo:decide (0≤o)=true:=decide_eq_true hq
           rw [hdo] at HS1;have HOA:=hid (HOQ.out.alloc (.cells #[.int .i32 (c:Int),.int .i64 (p:Int)] 196));have HBA:=hid (HBQ.out.alloc (Nat.le_of_lt hqs) (.cells #[.int .i32 (c:Int),.int .i64 (p:Int)] 196));have HITA:=hid (show (W.alloc (.cells #[.int .i32 (c:Int),.int .i64 (p:Int)] 196)).heap[g]? = some (.stringIter s (p+LC)) by rw [heap_alloc_old W _ hqs]; exact HITQ.out);have hqa:g < (W.alloc (.cells #[.int .i32 (c:Int),.int .i64 (p:Int)] 196)).heap.size:=by simp; omega
           go_wp2_with fail
           refine (qBR (s.extract p s.size) ⟨#[39,39]⟩ _ hez (by decide)).mono ?_;rintro e w1 ⟨rfl,rfl⟩;rw [hpf]
           go_wp2_with fail
           refine (keep_c _ w g u2 m L ((c:Int),true,(p:Int)) 198 _ rfl HOA.out (Nat.le_of_lt hqa) HBA.out).mono ?_;rintro e w2 ⟨v2,m2,rfl,h1,h2,h3⟩;have HIT2:=hid ((h3.out g hqa (qDU HOA.out HITA.out)).trans HITA.out);clear h3
           go_wp2
           go_roundw
           case rel=>exact ⟨p+LC,nx,cs,L++[((c:Int),true,(p:Int))],o,m2,HR1.out,HS1.out,rfl,rfl,HIT2.out,h1.out,h2.out⟩
           case measure=>
            have e1:w2.iterPos g=p+LC:=by simp only [World.iterPos]; rw [HIT2.out]
            rw [HPOS.out,e1]; omega
         · have hdo:decide (0≤o)=false:=decide_eq_false hq
           rw [hdo] at HS1;have HOA:=hid (HOQ.out.alloc (.cells #[.int .i32 (c:Int),.int .i64 (p:Int)] 196));have HBA:=hid (HBQ.out.alloc (Nat.le_of_lt hqs) (.cells #[.int .i32 (c:Int),.int .i64 (p:Int)] 196));have HITA:=hid (show (W.alloc (.cells #[.int .i32 (c:Int),.int .i64 (p:Int)] 196)).heap[g]? = some (.stringIter s (p+LC)) by rw [heap_alloc_old W _ hqs]; exact HITQ.out);have hqa:g < (W.alloc (.cells #[.int .i32 (c:Int),.int .i64 (p:Int)] 196)).heap.size:=by simp; omega
           go_wp2_with fail
           refine (qBR (s.extract p s.size) ⟨#[39,39]⟩ _ hez (by decide)).mono ?_;rintro e w1 ⟨rfl,rfl⟩;rw [hpf]
           go_wp2_with fail
           refine (keep_c _ w g u2 m L ((c:Int),false,(p:Int)) 196 _ rfl HOA.out (Nat.le_of_lt hqa) HBA.out).mono ?_;rintro e w2 ⟨v2,m2,rfl,h1,h2,h3⟩;have HIT2:=hid ((h3.out g hqa (qDU HOA.out HITA.out)).trans HITA.out);clear h3
           go_wp2
           go_roundw
           case rel=>exact ⟨p+LC,nx,cs,L++[((c:Int),false,(p:Int))],o,m2,HR1.out,HS1.out,rfl,rfl,HIT2.out,h1.out,h2.out⟩
           case measure=>
            have e1:w2.iterPos g=p+LC:=by simp only [World.iterPos]; rw [HIT2.out]
            rw [HPOS.out,e1]; omega
def FB (w:World) (g:Nat) (x y:Value):Prop:=w.heap[g]? = some (.cells #[x,y] 27 (0,0))
section
variable {w w':World} {g:Nat} {x y:Value}
theorem FB.c0 (h:FB w g x y):w.cell? ⟨g,0,none⟩=some x:=by rw [cell_of_row w g 0 _ _ _ h]; rfl
theorem FB.c1 (h:FB w g x y):w.cell? ⟨g,1,none⟩=some y:=by rw [cell_of_row w g 1 _ _ _ h]; rfl
theorem FB.fr (h:FB w g x y) (k:Nat):w.frozen? ⟨g,k,none⟩=false:=by simp [World.frozen?,show w.heap[g]? = _ from h]
theorem FB.below {B:Nat} (h:FB w g x y) (hb:Below B w w') (hg:g < B):FB w' g x y:=(hb.block g hg).trans h
theorem FB.new (w:World) (x y:Value):FB (w.alloc (.cells #[x,y] 27)) w.heap.size x y:=heap_alloc_new w _
theorem FB.lt (h:FB w g x y):g < w.heap.size:=(Array.getElem?_eq_some_iff.1 h).1
theorem FB.alloc (h:FB w g x y) (o:Obj):FB (w.alloc o) g x y:=by
 have hg:g < w.heap.size:=(Array.getElem?_eq_some_iff.1 h).1
 exact (heap_alloc_old w o hg).trans h
theorem FB.set (h:FB w g x y) (x' y':Value):FB ((w.setCell ⟨g,0,none⟩ x').setCell ⟨g,1,none⟩ y') g x' y':=
 heap_setCell_same _ g 1 _ _ y' (heap_setCell_same w g 0 _ _ x' h)
theorem Below.set2 {B:Nat} (h:Below B w w') (hg:B≤g) (x' y':Value):Below B w ((w'.setCell ⟨g,0,none⟩ x').setCell ⟨g,1,none⟩ y'):=
 (h.setCell (p:=⟨g,0,none⟩) hg _).setCell (p:=⟨g,1,none⟩) hg _
end
theorem qAH {w:World} {base:Nat} {e:TypeId} {size n:Nat} {v:Value} {xs:List Value} (h:w.ownsRow base e size v n xs) {p:Addr} (hp:p.block < base) (u:Value):(w.setCell p u).ownsRow base e size v n xs:=by
 refine h.kept (row:=some p.block) ⟨rfl,rfl,rfl,by simp,fun k _ hk=>heap_setCell_other w p k u (fun e=>hk (by rw [e]))⟩ ?_
 rcases hv:v.ownBlock with _ | k
 · exact .inl rfl
 · right
   intro e;have:=(h.lt k hv).1
   cases e
   omega
theorem pcV_form (t:Tok):∃ T y,pcV t=.iface T y:=⟨_,_,rfl⟩
theorem scn_isZ {cs:List Nat} (h:allC cs=true) (a:Nat) (o:Int):∀ t ∈ (scn cs a o).1,R32 t:=fun t ht=>r32_may (List.all_eq_true.1 (scn_may cs a o h) t ht)
theorem qD0 (ts:List Tok) {k:Nat} (h:k < ts.length):ts.take (k+1)=ts.take k++[tk ts k]:=by
 rw [List.take_succ_eq_append_getElem h,qLK h]
set_option maxHeartbeats 2000000 in
theorem tokScan_c (s:ByteArray) (w:World) (hs:s.size≤10000000000):Calls Tryz.prog 81 #[.string s] w fun e w'=>
 ∃ A m c,e=.returned (.tuple #[.slice A m c,.agg #[.int .i64 (toks (bts s)).2.1,.int .i64 (toks (bts s)).2.2]])∧Hid (OwnT w' w.heap.size A m c (toks (bts s)).1)∧Hid (Below w.heap.size w w'):=by
 generalize hg:w.heap.size=g at *
 have Hg:=hid hg
 clear hg
 have hgl:g≤w.heap.size:=by rw [Hg.out]; exact Nat.le_refl _
 have FB0:=FB.new w (.int .i64 0) (.int .i64 0)
 rw [Hg.out] at FB0
 have BW:=hid ((Below.refl g w).alloc hgl (.cells #[.int .i64 0,.int .i64 0] 27))
 generalize hW0:w.alloc (.cells #[.int .i64 0,.int .i64 0] 27)=W0 at *
 have hs0:W0.heap.size=g+1:=by rw [← hW0,World.size_alloc,Hg.out]
 have HW0:=hid hW0
 clear hW0
 go_enter Tryz.func81,Tryz.ntmps81
 go_wp2_with fail
 rw [HW0.out]
 refine (utfBad_c s W0 (by omega)).mono ?_
 rintro e w1 ⟨rfl,hb1⟩
 rw [hs0] at hb1
 have FB1:=FB0.below hb1 (Nat.lt_succ_self g)
 have B1:=hid (BW.out.trans (hb1.mono (Nat.le_succ g)))
 have hs1:g+1≤w1.heap.size:=by have:=hb1.size; omega
 clear hb1 FB0 BW
 rw [Hg.out]
 by_cases hr:rst (bts s)=[]
 · rw [qGS hr]
   have hRZ:=Rem.zero hr;have hT:toks (bts s)=if 0≤(scn (cps (bts s)) 0 (-1)).2 then ([],3,(scn (cps (bts s)) 0 (-1)).2) else if 400 < (scn (cps (bts s)) 0 (-1)).1.length then ([],8,0) else ((scn (cps (bts s)) 0 (-1)).1,0,0):=by
    rw [toks,if_neg (by simp [hr])]
   have HR32:=hid (scn_isZ hRZ.2.2 0 (-1));have HC:=hid (split_c s w1 hs hr);generalize scn (cps (bts s)) 0 (-1)=F at *;clear hr hRZ
   go_wp2_with fail
   refine HC.out.mono ?_;rintro e w2 ⟨A,m,c,rfl,ho2,hb2⟩;clear HC;have FB2:=FB1.below hb2.out hs1;have B2:=hid (B1.out.trans (hb2.out.mono (Nat.le_trans (Nat.le_succ g) hs1)));have hs2:g+1≤w2.heap.size:=by have:=hb2.out.size; omega
   have hl2:(F.1.take 401).length=m:=by have:=ho2.out.1; simpa using this
   rw [List.length_take] at hl2;clear hb2 FB1
   by_cases ho:0≤F.2
   · rw [if_pos ho] at hT
     have HT:=hid hT;have hdo:decide (0≤F.2)=true:=decide_eq_true ho;generalize F.2=o at *;have f0:=FB2.c0;have f1:=FB2.c1;have f2:=FB2.fr 0;have f3:=FB2.fr 1;clear hT;have FE:=FB2.set (.int .i64 3) (.int .i64 o);have e0:=FE.c0;have e1:=FE.c1;have BE:=hid (Below.set2 B2.out (Nat.le_refl g) (.int .i64 3) (.int .i64 o));have OE:=hid (qCZ ((w2.setCell ⟨g,0,none⟩ (.int .i64 3)).setCell ⟨g,1,none⟩ (.int .i64 o)) g);clear FE FB2
     go_wp2
     generalize hWE:(w2.setCell ⟨g,0,none⟩ (.int .i64 3)).setCell ⟨g,1,none⟩ (.int .i64 o)=WE at *;rw [HT.out];exact bodyPost_ret (v:=.tuple #[.slice none 0 0,.agg #[(.int .i64 3),(.int .i64 o)]]) (by simp [results,Tryz.results81,go_sem,e0,e1]) rfl ⟨_,_,_,rfl,OE,BE⟩
   · rw [if_neg ho] at hT
     have hdo:decide (0≤F.2)=false:=decide_eq_false ho
     by_cases hm:400 < F.1.length
     · rw [if_pos hm] at hT
       have HT:=hid hT;have hm1:m=401:=by omega
       subst hm1;clear hl2;have f0:=FB2.c0;have f1:=FB2.c1;have f2:=FB2.fr 0;have f3:=FB2.fr 1;clear hT;have FE:=FB2.set (.int .i64 8) (.int .i64 0);have e0:=FE.c0;have e1:=FE.c1;have BE:=hid (Below.set2 B2.out (Nat.le_refl g) (.int .i64 8) (.int .i64 0));have OE:=hid (qCZ ((w2.setCell ⟨g,0,none⟩ (.int .i64 8)).setCell ⟨g,1,none⟩ (.int .i64 0)) g);clear FE FB2
       go_wp2
       generalize hWE:(w2.setCell ⟨g,0,none⟩ (.int .i64 8)).setCell ⟨g,1,none⟩ (.int .i64 0)=WE at *;rw [HT.out];exact bodyPost_ret (v:=.tuple #[.slice none 0 0,.agg #[(.int .i64 8),(.int .i64 0)]]) (by simp [results,Tryz.results81,go_sem,e0,e1]) rfl ⟨_,_,_,rfl,OE,BE⟩
     · rw [if_neg hm] at hT
       have HT:=hid hT;have hm1:F.1.length=m:=by omega
       have hm400:m≤400:=by omega
       rw [List.take_of_length_le (by omega)] at ho2;obtain ⟨L,o⟩:=F;dsimp only at *;have HL:=hid hm1;have HP:=hid (qB6.of_own ho2.out);generalize hq2:w2.heap.size=q at *;have Hq:=hid hq2;have BQ:=hid (Below.refl q w2);clear hT hl2 hm ho hm1 ho2 hq2
       go_wp2
       go_loopw [7,31] (fun v iv wr=>∃ (k:Nat),k≤m∧iv=.int .i64 (k:Int)∧wr.ownsRow q 58 3 v k (qCL (L.take k))∧Below q w2 wr) (fun _ iv _=>m - (intOf iv).toNat)
       case atStart=>exact ⟨0,Nat.zero_le _,rfl,World.ownsRow_nil _ _ _ _,BQ.out⟩
       case round=>
        obtain ⟨k,hk,rfl,ho0,hb0⟩:=hrel;have HO:=hid ho0;have HB:=hid hb0;have hqs:q≤wr.heap.size:=by have:=hb0.size; have:=Hq.out; omega
        have FB3:=FB2.below hb0 (by omega);clear hb0 ho0
        by_cases hlt:k < m
        · obtain ⟨ad,u,rfl,_,hu,hc⟩:=(HP.out.below HB.out).at_ hlt
          have hu':u=pcV (tk L k):=by
           rw [List.getElem?_map,List.getElem?_eq_getElem (by rw [HL.out]; exact hlt)] at hu;rw [qLK (by rw [HL.out]; exact hlt)]
           simpa using hu.symm
          have HS:=hid (qD0 L (k:=k) (by rw [HL.out]; exact hlt));rw [hu'] at hc;have HC:=hid (tell_c (tk L k) wr);generalize tk L k=t at *;obtain ⟨T,y,hT⟩:=pcV_form t;rw [hT] at hc HC;clear hu' hu hT FB3
          go_wp2_with fail
          refine HC.out.mono ?_;rintro e w3 ⟨rfl,hb3⟩;have HO3:=hid (qAV HO.out hb3 rfl);have HB3:=hid (HB.out.trans (hb3.mono hqs));have hqs3:q≤w3.heap.size:=by have:=hb3.size; omega
          clear hb3 HC
          go_wp2_with (at_builtin; go_must (refine qAF rfl (.tmp 35) (.tmp 38) _ rfl Tryz.underlying36 q u7 k (L.take k) rfl HO3.out t rfl t.1 t.2.1 t.2.2 rfl (by omega) HB3.out hqs3 ?_))
          intro v' w' ho4 hb4 _
          go_wp2
          go_roundw
          case rel=>
           refine ⟨k+1,by omega,by go_num,?_,hb4.out⟩;rw [HS.out,qCD]; simpa [qCD] using ho4.out
          case measure=>simp [intOf]; omega
        · have hkm:k=m:=by omega
          subst hkm;rw [List.take_of_length_le (by rw [HL.out]; exact Nat.le_refl _)] at HO;obtain ⟨A7,c7,hA⟩:=qAJ HO.out;subst hA;have f0:=FB3.c0;have f1:=FB3.c1;have f2:=FB3.fr 0;have f3:=FB3.fr 1;have FE:=FB3.set (.int .i64 0) (.int .i64 0);have e0:=FE.c0;have e1:=FE.c1;have BE:=hid (Below.set2 (B2.out.trans (HB.out.mono (by omega))) (Nat.le_refl g) (.int .i64 0) (.int .i64 0));have OE:=hid (show OwnT ((wr.setCell ⟨g,0,none⟩ (.int .i64 0)).setCell ⟨g,1,none⟩ (.int .i64 0)) g A7 k c7 L from
           ⟨qC5 (qAH (qAH HO.out (p:=⟨g,0,none⟩) hs2 _) (p:=⟨g,1,none⟩) hs2 _) (Nat.le_of_succ_le hs2),by omega,HR32.out⟩)
          clear FE FB3
          go_wp2
          generalize hWE:(wr.setCell ⟨g,0,none⟩ (.int .i64 0)).setCell ⟨g,1,none⟩ (.int .i64 0)=WE at *;rw [HT.out];exact bodyPost_ret (v:=.tuple #[.slice A7 k c7,.agg #[(.int .i64 0),(.int .i64 0)]]) (by simp [results,Tryz.results81,go_sem,e0,e1]) rfl ⟨_,_,_,rfl,OE,BE⟩
 · have hz:0≤badZ (bts s):=by
    rcases Int.lt_or_le (badZ (bts s)) 0 with h | h
    · exact absurd (qK2.1 h) hr
    · exact h
   have HT:=hid (show toks (bts s)=([],2,badZ (bts s)) by rw [toks,if_pos hr]);generalize badZ (bts s)=Z at *;clear hr;have f0:=FB1.c0;have f1:=FB1.c1;have f2:=FB1.fr 0;have f3:=FB1.fr 1;have FE:=FB1.set (.int .i64 2) (.int .i64 Z);have e0:=FE.c0;have e1:=FE.c1;have BE:=hid (Below.set2 B1.out (Nat.le_refl g) (.int .i64 2) (.int .i64 Z));have OE:=hid (qCZ ((w1.setCell ⟨g,0,none⟩ (.int .i64 2)).setCell ⟨g,1,none⟩ (.int .i64 Z)) g);clear FE FB1
   go_wp2
   generalize hWE:(w1.setCell ⟨g,0,none⟩ (.int .i64 2)).setCell ⟨g,1,none⟩ (.int .i64 Z)=WE at *;rw [HT.out];exact bodyPost_ret (v:=.tuple #[.slice none 0 0,.agg #[(.int .i64 2),(.int .i64 Z)]]) (by simp [results,Tryz.results81,go_sem,e0,e1]) rfl ⟨_,_,_,rfl,OE,BE⟩
attribute [local go_sem] qJ5
def Rg (zs:List Int):Prop:=∀ z ∈ zs,-2147483648≤z∧z≤2147483647
theorem rg_nil:Rg []:=fun _ h=>absurd h (by simp)
theorem qG2 {xs ys:List Int} (hx:Rg xs) (hy:Rg ys):Rg (xs++ys):=fun z hz=>(List.mem_append.1 hz).elim (hx z) (hy z)
theorem rg_one {t:Tok} (h:R32 t):Rg [t.1]:=fun z hz=>by rw [List.mem_singleton] at hz; subst hz; exact h
theorem rg_dbl {xs:List Int} (hx:Rg xs):Rg (dbl xs):=by
 intro z hz
 obtain ⟨r,hr,hz⟩:=List.mem_flatMap.1 hz
 split at hz
 · simp only [List.mem_cons,List.not_mem_nil,or_false,or_self] at hz; subst hz; omega
 · rw [List.mem_singleton] at hz; subst hz; exact hx _ hr
theorem rg_inQ {xs:List Int} (hx:Rg xs):Rg (inQ xs):=by
 unfold inQ; split
 · exact rg_dbl hx
 · intro z hz
   simp only [List.mem_cons,List.mem_append,List.not_mem_nil,or_false] at hz
   rcases hz with rfl | hz | rfl
   · omega
   · exact rg_dbl hx z hz
   · omega
def okT (t:Tok):Bool:=t.2.1 || !decide (t.1=39)
theorem prtZ_ok {ts:List Tok} (h:ts.all okT=true):prtZ ts=txtZ (prt ts []):=by
 have hm:ts.all mayT=(prt ts []).all isZ:=by
  rw [prt_isZ,List.all_nil,Bool.true_and];have hgen:∀ us:List Tok,us.all okT=true→us.all mayT=us.all fun t=>isZ t.1:=by
   intro us
   induction us with
   | nil=>intro _; rfl
   | cons t us ih=>
    intro h;rw [List.all_cons,Bool.and_eq_true] at h;rw [List.all_cons,List.all_cons,ih h.2,mayT,show (t.2.1 || !decide (t.1=39))=true from h.1,Bool.and_true]
  exact hgen ts h
 rw [prtZ,txtZ,hm]; rfl
theorem prtZ_no {ts:List Tok} {t:Tok} (ht:t ∈ ts) (h:okT t=false):prtZ ts=⟨#[]⟩:=by
 have hm:ts.all mayT=false:=by
  rw [Bool.eq_false_iff];intro ha;have:=List.all_eq_true.1 ha t ht;rw [mayT,show (t.2.1 || !decide (t.1=39))=false from h,Bool.and_false] at this
  cases this
 rw [prtZ,hm]; rfl
theorem tk_mem {ts:List Tok} {k:Nat} (h:k < ts.length):tk ts k ∈ ts:=by rw [qLK h]; exact List.getElem_mem h
theorem drop_tk {ts:List Tok} {k:Nat} (h:k < ts.length):ts.drop k=tk ts k :: ts.drop (k+1):=by rw [List.drop_eq_getElem_cons h,qLK h]
theorem qBW {w w':World} {base B:Nat} {e:TypeId} {size n:Nat} {v:Value} {xs:List Value} (h:w.ownsRow base e size v n xs) (hv:∀ k,v.ownBlock=some k→k < B) (hb:Below B w w'):w'.ownsRow base e size v n xs:=by
 refine ⟨h.1,?_⟩
 rcases h.2 with h' | ⟨g,cap,cur,rfl,h1,h2,h3⟩
 · exact .inl h'
 · exact .inr ⟨g,cap,cur,rfl,h1,(hb.block g (hv g rfl)).trans h2,h3⟩
set_option maxHeartbeats 2000000 in
theorem qJ7 (A:Option Addr) (n c:Nat) (ts:List Tok) (w:World) (h:Tks w A n ts) (hn:n≤100000000):Calls Tryz.prog 112 #[.slice A n c] w fun e w'=>e=.returned (.string (prtZ ts))∧Hid (Below w.heap.size w w'):=by
 have HL:=hid h.len
 have H:=hid h
 clear h
 generalize hg:w.heap.size=g at *
 have Hg:=hid hg
 clear hg
 have B0:=hid (show Below g w w by rw [← Hg.out]; exact Below.refl _ _)
 go_enter Tryz.func112,Tryz.ntmps112
 go_wp2
 go_loopw [3,4,13] (fun ov rv iv wr=>∃ (k:Nat) (O R:List Int) (mo mr h0:Nat),k≤n∧iv=.int .i64 (k:Int)∧(ts.take k).all okT=true∧prt ts []=O++prt (ts.drop k) R∧mo+2 * mr≤4 * k∧Rg O∧Rg R ∧
  wr.ownsRow g 21 1 ov mo (i32s O)∧(∀ j,ov.ownBlock=some j→j < h0)∧wr.ownsRow h0 21 1 rv mr (i32s R)∧g≤h0∧h0≤wr.heap.size∧Below g w wr) (fun _ _ iv _=>n - (intOf iv).toNat)
 case atStart=>exact ⟨0,[],[],0,0,g,Nat.zero_le _,rfl,rfl,rfl,by omega,rg_nil,rg_nil,World.ownsRow_nil _ _ _ _,fun j hj=>by simp [Value.ownBlock] at hj,World.ownsRow_nil _ _ _ _,Nat.le_refl _,by rw [Hg.out]; exact Nat.le_refl _,B0.out⟩
 case round=>
  obtain ⟨k,O,R,mo,mr,h0,hk,rfl,hall0,hprt0,hpot,hO0,hR0,ho0,hob0,hr0,hgh,hhs,hb0⟩:=hrel;have HALL:=hid hall0;have HPRT:=hid hprt0;have HRO:=hid hO0;have HRR:=hid hR0;have HO:=hid ho0;have HOB:=hid hob0;have HR:=hid hr0;have HB:=hid hb0;have HT:=hid (H.out.below (w':=wr) (by rw [Hg.out]; exact hb0));clear hall0 hprt0 hO0 hR0 ho0 hob0 hr0 hb0
  by_cases hlt:k < n
  · have HDR:=hid (drop_tk (ts:=ts) (k:=k) (by rw [HL.out]; exact hlt))
    have HTK:=hid (qD0 ts (k:=k) (by rw [HL.out]; exact hlt));have HMEM:=hid (tk_mem (ts:=ts) (k:=k) (by rw [HL.out]; exact hlt));obtain ⟨ad,rfl,_,c0,c1,c2,hr32⟩:=HT.out.at_ hlt;have HR32:=hid hr32;clear hr32;generalize tk ts k=t at *;obtain ⟨r,q,a⟩:=t;dsimp only at c0 c1 c2
    cases q
    · obtain ⟨A4,c4,h4⟩:=qAJ HR.out
      subst h4
      go_wp2_with fail
      refine (take_p r a _).mono ?_;rintro e w1 ⟨rfl,hb1⟩;have BA:=(Below.refl _ wr).alloc (Nat.le_refl _) (.cells #[.int .i32 r,.bool false,.int .i64 a] 58);have B1:=hid (BA.trans (hb1.mono (by simp)));have hs1:wr.heap.size+1≤w1.heap.size:=by have:=hb1.size; simpa using this
      clear BA hb1;have q0:=isQ_no;have q1:=isP_yes
      go_wp2_with fail
      refine (point_c r a _).mono ?_;rintro e w2 ⟨rfl,hb2⟩;have cA:(w1.alloc (.cells #[.int .i32 r,.int .i64 a] 196)).cell? ⟨w1.heap.size,0,none⟩=some (.int .i32 r):=by rw [cell_of_row _ w1.heap.size 0 _ _ _ (heap_alloc_new w1 _)]; rfl
      have cB:(w1.alloc (.cells #[.int .i32 r,.int .i64 a] 196)).cell? ⟨w1.heap.size,1,none⟩=some (.int .i64 a):=by rw [cell_of_row _ w1.heap.size 1 _ _ _ (heap_alloc_new w1 _)]; rfl
      have CA2:=hid ((hb2.cell (p:=⟨w1.heap.size,0,none⟩) (by simp)).trans cA);have CB2:=hid ((hb2.cell (p:=⟨w1.heap.size,1,none⟩) (by simp)).trans cB);have hq2:w1.heap.size < w2.heap.size:=by have:=hb2.size; simp at this; omega
      have B2:=hid (B1.out.trans (((Below.refl _ w1).alloc (Nat.le_refl _) (.cells #[.int .i32 r,.int .i64 a] 196)).trans (hb2.mono (by simp)) |>.mono (Nat.le_of_succ_le hs1)));clear hb2 cA cB B1
      by_cases hr:r=39
      · subst hr
        have HZ:=hid (prtZ_no HMEM.out rfl)
        go_wp2
        go_ret
        rw [HZ.out];exact ⟨rfl,hid (HB.out.trans (B2.out.mono (Nat.le_trans hgh hhs)))⟩
      · have hr39:(r == 39)=false:=by simpa using hr
        have HO2:=hid (qAV HO.out B2.out rfl);have HR2:=hid (qAV HR.out B2.out rfl);have HB2:=hid (HB.out.trans (B2.out.mono (Nat.le_trans hgh hhs)));have HIQ:=hid (qJ6 A4 mr c4 R w2 ⟨qB6.of_own HR2.out,by omega,HRR.out⟩ (by omega))
        go_wp2_with fail
        refine HIQ.out.mono ?_;rintro e w3 ⟨v5,m5,rfl,ho5,hm5,hb5⟩;have HO3:=hid (qAV HO2.out hb5.out rfl);have HB3:=hid (HB2.out.trans (hb5.out.mono (show g≤w2.heap.size by omega)));have CA3:=hid ((hb5.out.cell (p:=⟨w1.heap.size,0,none⟩) hq2).trans CA2.out);have CB3:=hid ((hb5.out.cell (p:=⟨w1.heap.size,1,none⟩) hq2).trans CB2.out);have hs3:w2.heap.size≤w3.heap.size:=hb5.out.size;clear hb5 CA2 CB2 HO2 HR2 HIQ
        go_wp2_with (at_builtin; go_must (refine qCG rfl (.tmp 34) (.tmp 36) _ rfl Tryz.underlying85 g u3 mo O rfl HO3.out v5 m5 w2.heap.size (inQ R) rfl ho5.out (by omega) HB3.out (by omega) ?_))
        intro v6 w4 ho6 hb6 hk6;have hne:∀ j,w1.heap.size≤j→u3.ownBlock≠some j:=fun j hj e=>by have:=HOB.out j e; omega
        have cA4:w4.cell? ⟨w1.heap.size,0,none⟩=some (.int .i32 r):=(World.cell?_of_block (w:=w3) (hk6.out w1.heap.size (by omega) (hne _ (Nat.le_refl _)))).trans CA3.out;have cB4:w4.cell? ⟨w1.heap.size,1,none⟩=some (.int .i64 a):=(World.cell?_of_block (w:=w3) (hk6.out w1.heap.size (by omega) (hne _ (Nat.le_refl _)))).trans CB3.out;clear hk6 hne
        go_wp2_with fail
        refine (point_c r a w4).mono ?_;rintro e w5 ⟨rfl,hb7⟩;have HO5:=hid (qAV ho6.out hb7 rfl);have hg4:g≤w4.heap.size:=by have:=hb6.out.size; have:=Hg.out; omega
        have HB5:=hid (hb6.out.trans (hb7.mono hg4));have hg5:g≤w5.heap.size:=by have:=hb7.size; omega
        clear hb7 cA4 cB4
        go_wp2_with (at_builtin; go_must (refine qAT rfl (.tmp 38) (.tmp 41) _ rfl Tryz.underlying85 g v6 (mo+m5) _ rfl HO5.out _ rfl r rfl (by omega) HB5.out hg5 ?_))
        intro v8 w6 ho8 hb8 _
        go_wp2
        go_roundw
        case rel=>
         refine ⟨k+1,O++inQ R++[r],[],mo+m5+1,0,w6.heap.size,by omega,by go_num,?_,?_,by omega,?_,rg_nil,?_,fun j hj=>(ho8.out.lt j hj).2,World.ownsRow_nil _ _ _ _,?_,Nat.le_refl _,hb8.out⟩
         · rw [HTK.out,List.all_append,HALL.out]; simp [okT,hr]
         · rw [HPRT.out,HDR.out,prt_p rfl]; simp
         · exact qG2 (qG2 HRO.out (rg_inQ HRR.out)) (rg_one HR32.out)
         · simpa using ho8.out
         · have:=hb8.out.size; have:=Hg.out; omega
        case measure=>simp [intOf]; omega
    · go_wp2_with fail
      refine (take_q r a _).mono ?_;rintro e w1 ⟨rfl,hb1⟩;have BA:=(Below.refl _ wr).alloc (Nat.le_refl _) (.cells #[.int .i32 r,.bool true,.int .i64 a] 58);have B1:=hid (BA.trans (hb1.mono (by simp)));have hs1:wr.heap.size+1≤w1.heap.size:=by have:=hb1.size; simpa using this
      clear BA hb1;have q0:=isQ_yes
      go_wp2_with fail
      refine (point_c r a _).mono ?_;rintro e w2 ⟨rfl,hb2⟩;have B2:=hid (B1.out.trans (((Below.refl _ w1).alloc (Nat.le_refl _) (.cells #[.int .i32 r,.int .i64 a] 198)).trans (hb2.mono (by simp)) |>.mono (Nat.le_of_succ_le hs1)));have hs2:wr.heap.size≤w2.heap.size:=B2.out.size;clear hb2 B1;have HO2:=hid (qAV HO.out B2.out rfl);have HR2:=hid (qAV HR.out B2.out rfl);have HB2:=hid (HB.out.trans (B2.out.mono (Nat.le_trans hgh hhs)))
      go_wp2_with (at_builtin; go_must (refine qAT (w0:=w2) rfl (.tmp 22) (.tmp 26) _ rfl Tryz.underlying85 h0 u4 mr _ rfl HR2.out _ rfl r rfl (by omega) (Below.refl h0 w2) (by omega) ?_))
      intro v8 w6 ho8 hb8 _
      go_wp2
      go_roundw
      case rel=>
       refine ⟨k+1,O,R++[r],mo,mr+1,h0,by omega,by go_num,?_,?_,by omega,HRO.out,?_,qBW HO2.out HOB.out hb8.out,HOB.out,?_,hgh,?_,HB2.out.trans (hb8.out.mono hgh)⟩
       · rw [HTK.out,List.all_append,HALL.out]; simp [okT]
       · rw [HPRT.out,HDR.out,prt_q rfl]
       · exact qG2 HRR.out (rg_one HR32.out)
       · simpa using ho8.out
       · have:=hb8.out.size; omega
      case measure=>simp [intOf]; omega
  · have hkn:k=n:=by omega
    subst hkn;have HE:=hid (show prtZ ts=txtZ (O++inQ R) by
     have h1:=HALL.out;rw [List.take_of_length_le (by rw [HL.out]; exact Nat.le_refl _)] at h1;rw [prtZ_ok h1,HPRT.out,List.drop_of_length_le (by rw [HL.out]; exact Nat.le_refl _),qI4])
    obtain ⟨A4,c4,h4⟩:=qAJ HR.out;subst h4;have HIQ:=hid (qJ6 A4 mr c4 R wr ⟨qB6.of_own HR.out,by omega,HRR.out⟩ (by omega))
    go_wp2_with fail
    refine HIQ.out.mono ?_;rintro e w3 ⟨v5,m5,rfl,ho5,hm5,hb5⟩;have HO3:=hid (qAV HO.out hb5.out rfl);have HB3:=hid (HB.out.trans (hb5.out.mono (show g≤wr.heap.size by omega)));have hs3:wr.heap.size≤w3.heap.size:=hb5.out.size;clear hb5 HIQ
    go_wp2_with (at_builtin; go_must (refine qCG rfl (.tmp 45) (.tmp 47) _ rfl Tryz.underlying85 g u3 mo O rfl HO3.out v5 m5 wr.heap.size (inQ R) rfl ho5.out (by omega) HB3.out (by omega) ?_))
    intro v6 w4 ho6 hb6 _;obtain ⟨A6,c6,h6⟩:=qAJ ho6.out;subst h6;have HTX:=hid (utfText_c A6 (mo+m5) c6 (O++inQ R) w4 ⟨qB6.of_own ho6.out,by omega,qG2 HRO.out (rg_inQ HRR.out)⟩)
    go_wp2_with fail
    refine HTX.out.mono ?_;rintro e w5 ⟨rfl,rfl⟩;clear HTX;rw [← HE.out]
    go_wp2
    go_ret
    exact ⟨rfl,hb6⟩
abbrev Itm:=Int × Int
def sgs:List Nat:=[45,43,37,8240,164]
def mks:List Nat:=[35,48,49,50,51,52,53,54,55,56,57,64,44,46,59,42]
def oth:List Nat:=[69,39]
def sgn (k:Nat):Nat:=sgs.getD k 0
def sgo (k:Nat):Nat:=[0,1,2,3,6,8].getD k 8
def sgK (r:Int):Int:=if r=45 then 2 else if r=43 then 3 else if r=37 then 4 else if r=8240 then 5 else if r=164 then 6 else 0
def mrk (r:Int):Bool:=decide (r ∈ ints mks)
def nds (r:Int):Bool:=decide (r ∈ ints sgs) || mrk r || decide (r ∈ ints oth)
theorem sgs_cons:ints sgs=[45,43,37,8240,164]:=rfl
theorem mks_cons:ints mks=[35,48,49,50,51,52,53,54,55,56,57,64,44,46,59,42]:=rfl
theorem oth_cons:ints oth=[69,39]:=rfl
theorem sgs_iff {r:Int}:r ∈ ints sgs↔r=45∨r=43∨r=37∨r=8240∨r=164:=by simp [sgs_cons]
theorem mrk_iff {r:Int}:mrk r=true↔(48≤r∧r≤57)∨r=35∨r=64∨r=44∨r=46∨r=59∨r=42:=by
 rw [mrk,decide_eq_true_iff,mks_cons]
 simp only [List.mem_cons,List.not_mem_nil,or_false]
 omega
theorem sgK_pos {r:Int}:sgK r≠0↔r ∈ ints sgs:=by
 rw [sgs_iff]; unfold sgK; repeat' split
 all_goals simp_all
theorem sgK_zero {r:Int}:sgK r=0↔¬ r ∈ ints sgs:=by rw [← sgK_pos]; simp
theorem sgK_sgn {k:Nat} (h:k < 5):sgK ((sgn k:Nat):Int)=2+(k:Int):=by
 have:k=0∨k=1∨k=2∨k=3∨k=4:=by omega
 rcases this with rfl | rfl | rfl | rfl | rfl <;> rfl
theorem sgK_none {r:Int} (h:∀ k,k < 5→r≠((sgn k:Nat):Int)):sgK r=0:=by
 rw [sgK_zero,sgs_iff]
 have h0:=h 0 (by omega)
 have h1:=h 1 (by omega)
 have h2:=h 2 (by omega)
 have h3:=h 3 (by omega)
 have h4:=h 4 (by omega)
 simp only [sgn,sgs,List.getD] at h0 h1 h2 h3 h4
 simp at h0 h1 h2 h3 h4
 omega
theorem qG3 (r:Int):0≤sgK r∧sgK r≤6:=by
 unfold sgK; repeat' split
 all_goals omega
theorem nds_iff {r:Int}:nds r=true↔r ∈ ints sgs∨mrk r=true∨r=69∨r=39:=by
 rw [nds,Bool.or_eq_true,Bool.or_eq_true,decide_eq_true_iff,decide_eq_true_iff,oth_cons]
 simp only [List.mem_cons,List.not_mem_nil,or_false]
 constructor
 · rintro ((h | h) | h | h)
   · exact .inl h
   · exact .inr (.inl h)
   · exact .inr (.inr (.inl h))
   · exact .inr (.inr (.inr h))
 · rintro (h | h | h | h)
   · exact .inl (.inl h)
   · exact .inl (.inr h)
   · exact .inr (.inl h)
   · exact .inr (.inr h)
def itm (t:Tok):Itm:=if t.2.1=false∧sgK t.1≠0 then (sgK t.1,0) else (1,t.1)
theorem itm_q {t:Tok} (h:t.2.1=true):itm t=(1,t.1):=by rw [itm,if_neg (by rw [h]; simp)]
theorem itm_p {t:Tok} (h:sgK t.1=0):itm t=(1,t.1):=by rw [itm,if_neg (by rw [h]; simp)]
theorem itm_s {t:Tok} (h:t.2.1=false) (h':sgK t.1≠0):itm t=(sgK t.1,0):=by rw [itm,if_pos ⟨h,h'⟩]
def badT (t:Tok):Bool:=!t.2.1 && mrk t.1
def itms (ts:List Tok):List Itm × Int × Int:=
 match ts.find? badT with
 | some t=>([],4,t.2.2)
 | none=>if 40 < ts.length then ([],8,0) else (ts.map itm,0,0)
theorem qG4 {ts:List Tok} {t:Tok} (h:ts.find? badT=some t):itms ts=([],4,t.2.2):=by rw [itms,h]
theorem qEI {ts:List Tok} (h:ts.find? badT=none) (hl:40 < ts.length):itms ts=([],8,0):=by rw [itms,h]; exact if_pos hl
theorem qGU {ts:List Tok} (h:ts.find? badT=none) (hl:¬ 40 < ts.length):itms ts=(ts.map itm,0,0):=by rw [itms,h]; exact if_neg hl
theorem find_at {ts:List Tok} {k:Nat} (hk:k < ts.length) (h:(ts.take k).find? badT=none) (hb:badT (tk ts k)=true):ts.find? badT=some (tk ts k):=by
 have e:ts=ts.take k++tk ts k :: ts.drop (k+1):=by
  conv=>lhs; rw [← List.take_append_drop k ts,List.drop_eq_getElem_cons hk,← qLK hk]
 rw [e,List.find?_append,h]
 simp only [Option.none_or]
 rw [← e,List.find?_cons,hb]
theorem qLL {ts:List Tok} {k:Nat} (hk:k < ts.length) (h:(ts.take k).find? badT=none) (hb:badT (tk ts k)=false):(ts.take (k+1)).find? badT=none:=by
 rw [List.take_succ_eq_append_getElem hk,List.find?_append,h,← qLK hk]
 simp [hb]
def mayI (i:Itm):Bool:=(decide (i.1=1) && isZ i.2) || (decide (2≤i.1) && decide (i.1≤6) && decide (i.2=0))
theorem qD1 {k r:Int}:mayI (k,r)=true↔(k=1∧isZ r=true)∨(2≤k∧k≤6∧r=0):=by
 simp [mayI,and_assoc]
def tkI (i:Itm):Tok:=if i.1=1 then (i.2,nds i.2,0) else (((sgn (i.1.toNat - 2):Nat):Int),false,0)
theorem qKB (r:Int):tkI (1,r)=(r,nds r,0):=rfl
theorem qHI {k:Nat} (r:Int):tkI (2+(k:Int),r)=(((sgn k:Nat):Int),false,0):=by
 rw [tkI,if_neg (by omega),show (2+(k:Int)).toNat - 2=k by omega]
def tksI (is:List Itm):List Tok:=if is.all mayI then is.map tkI else []
theorem qG5 {is:List Itm} (h:is.all mayI=true):tksI is=is.map tkI:=by rw [tksI,if_pos h]
theorem tksI_no {is:List Itm} (h:is.all mayI=false):tksI is=[]:=by rw [tksI,if_neg (by rw [h]; decide)]
theorem tksI_len (is:List Itm):(tksI is).length≤is.length:=by
 unfold tksI; split
 · rw [List.length_map]; exact Nat.le_refl _
 · exact Nat.zero_le _
theorem sgn_Z {k:Nat} (h:k < 5):isZ ((sgn k:Nat):Int)=true∧((sgn k:Nat):Int)≠39∧mrk ((sgn k:Nat):Int)=false:=by
 have:k=0∨k=1∨k=2∨k=3∨k=4:=by omega
 rcases this with rfl | rfl | rfl | rfl | rfl <;> exact ⟨by decide,by decide,by decide⟩
theorem qI6 {i:Itm} (h:mayI i=true):(i.1=1∧isZ i.2=true)∨∃ k:Nat,k < 5∧i=(2+(k:Int),0):=by
 obtain ⟨a,r⟩:=i
 rcases qD1.1 h with h | ⟨h1,h2,h3⟩
 · exact .inl h
 · exact .inr ⟨a.toNat - 2,by omega,by rw [h3,show 2+((a.toNat - 2:Nat):Int)=a by omega]⟩
theorem nds_39 {r:Int} (h:nds r=false):r≠39∧sgK r=0∧mrk r=false:=by
 have h':¬ nds r=true:=by rw [h]; decide
 rw [nds_iff] at h'
 simp only [not_or] at h'
 obtain ⟨h1,h2,_,h3⟩:=h'
 exact ⟨h3,sgK_zero.2 h1,by simpa using h2⟩
theorem qHJ {i:Itm} (h:mayI i=true):mayT (tkI i)=true∧badT (tkI i)=false∧itm (tkI i)=i:=by
 rcases qI6 h with ⟨h1,h2⟩ | ⟨k,hk,rfl⟩
 · obtain ⟨a,r⟩:=i
   dsimp only at h1 h2;subst h1;rw [qKB]
   rcases hn:nds r with _ | _
   · obtain ⟨n1,n2,n3⟩:=nds_39 hn
     refine ⟨?_,?_,itm_p n2⟩
     · simp [mayT,h2,n1]
     · simp [badT,n3]
   · exact ⟨by simp [mayT,h2],rfl,itm_q rfl⟩
 · obtain ⟨z1,z2,z3⟩:=sgn_Z hk
   rw [qHI];refine ⟨?_,?_,?_⟩
   · simp [mayT,z1,z2]
   · simp [badT,z3]
   · rw [itm_s rfl (by dsimp only; rw [sgK_sgn hk]; omega)]
     dsimp only;rw [sgK_sgn hk]
theorem qG6 (is:List Itm):(tksI is).all mayT=true:=by
 unfold tksI; split
 · rename_i h
   refine List.all_eq_true.2 fun t ht=>?_
   obtain ⟨i,hi,rfl⟩:=List.mem_map.1 ht;exact (qHJ (List.all_eq_true.1 h i hi)).1
 · rfl
theorem find_none {ts:List Tok} (h:∀ t ∈ ts,badT t=false):ts.find? badT=none:=by
 rw [List.find?_eq_none]
 intro t ht
 rw [h t ht]; decide
theorem itm_er {t t':Tok} (h:er t=er t'):itm t=itm t'∧badT t=badT t':=by
 obtain ⟨r,q,a⟩:=t
 obtain ⟨r',q',a'⟩:=t'
 simp only [er,Prod.mk.injEq] at h
 obtain ⟨rfl,rfl⟩:=h
 exact ⟨rfl,rfl⟩
theorem itms_back {is:List Itm} {ts:List Tok} (h:is.all mayI=true) (hl:is.length≤40) (he:ts.map er=(tksI is).map er):itms ts=(is,0,0):=by
 rw [qG5 h,List.map_map] at he
 have hlen:ts.length=is.length:=by have:=congrArg List.length he; simpa using this
 have hat:∀ (j:Nat) (h1:j < ts.length) (h2:j < is.length),er ts[j]=er (tkI is[j]):=by
  intro j h1 h2;have e:(ts.map er)[j]? = (is.map (er ∘ tkI))[j]?:=by rw [he]
  rw [List.getElem?_map,List.getElem?_map,List.getElem?_eq_getElem h1,List.getElem?_eq_getElem h2] at e
  simpa using e
 have hb:ts.find? badT=none:=by
  refine find_none fun t ht=>?_
  obtain ⟨j,hj,rfl⟩:=List.mem_iff_getElem.1 ht;rw [(itm_er (hat j hj (by omega))).2];exact (qHJ (List.all_eq_true.1 h _ (List.getElem_mem (by omega)))).2.1
 rw [qGU hb (by omega)]
 refine Prod.ext ?_ rfl
 refine List.ext_getElem (by rw [List.length_map]; exact hlen) fun j h1 h2=>?_
 rw [List.length_map] at h1
 dsimp only at h2
 rw [List.getElem_map,(itm_er (hat j h1 h2)).1]
 exact (qHJ (List.all_eq_true.1 h _ (List.getElem_mem h2))).2.2
theorem qF2 (ts:List Tok):(itms ts).1.length≤40:=by
 unfold itms; split
 · exact Nat.zero_le _
 · split
   · exact Nat.zero_le _
   · simp; omega
def itmV (i:Itm):List Value:=[.int .i64 i.1,.int .i32 i.2]
def itsV (is:List Itm):List Value:=is.flatMap itmV
theorem qI7 (i:Itm) (is:List Itm):itsV (i :: is)=itmV i++itsV is:=rfl
theorem qCO (is:List Itm):(itsV is).length=is.length * 2:=by
 induction is with
 | nil=>rfl
 | cons i is ih=>rw [qI7,List.length_append,ih]; simp only [itmV,List.length_cons,List.length_nil]; omega
theorem qI8 (is js:List Itm):itsV (is++js)=itsV is++itsV js:=by simp [itsV]
theorem itsV_one (i:Itm):itsV [i]=itmV i:=by simp [itsV]
def im (is:List Itm) (k:Nat):Itm:=is.getD k (0,0)
theorem im_eq {is:List Itm} {k:Nat} (h:k < is.length):im is k=is[k]:=by simp [im,List.getD,List.getElem?_eq_getElem h]
theorem im_mem {is:List Itm} {k:Nat} (h:k < is.length):im is k ∈ is:=by rw [im_eq h]; exact List.getElem_mem h
theorem qH5 (is:List Itm) {k:Nat} (h:k < is.length):is.take (k+1)=is.take k++[im is k]:=by
 rw [List.take_succ_eq_append_getElem h,im_eq h]
theorem itsV_get (is:List Itm):∀ (k j:Nat),k < is.length→j < 2→(itsV is)[k * 2+j]? = (itmV (im is k))[j]?:=by
 induction is with
 | nil=>intro k j h _; simp at h
 | cons t ts ih=>
  intro k j h hj
  cases k with
  | zero=>
   rw [qI7,List.getElem?_append_left (by show _ < 2; omega)];simp [im]
  | succ k=>
   rw [qI7,List.getElem?_append_right (by show 2≤_; omega)];rw [show (k+1) * 2+j - (itmV t).length=k * 2+j by show _ - 2=_; omega,ih k j (by simpa using h) hj];simp [im]
def RI (i:Itm):Prop:=(-9223372036854775808≤i.1∧i.1≤9223372036854775807)∧-2147483648≤i.2∧i.2≤2147483647
theorem ri_itm {t:Tok} (h:R32 t):RI (itm t):=by
 have:=qG3 t.1
 unfold itm; split
 · exact ⟨⟨by dsimp only; omega,by dsimp only; omega⟩,by dsimp only; omega,by dsimp only; omega⟩
 · exact ⟨⟨by dsimp only; omega,by dsimp only; omega⟩,h⟩
theorem r32_tkI {i:Itm} (h:RI i):R32 (tkI i):=by
 unfold tkI; split
 · exact h.2
 · have hg:sgn (i.1.toNat - 2)≤8240:=by
    rcases Nat.lt_or_ge (i.1.toNat - 2) 5 with hk | hk
    · generalize i.1.toNat - 2=k at hk
      have:k=0∨k=1∨k=2∨k=3∨k=4:=by omega
      rcases this with rfl | rfl | rfl | rfl | rfl <;> decide
    · rw [sgn,List.getD,List.getElem?_eq_none hk]; decide
   exact ⟨by dsimp only; omega,by dsimp only; omega⟩
def Its (w:World) (A:Option Addr) (n:Nat) (is:List Itm):Prop:=qB6 w w.heap.size 2 A n (itsV is)∧n≤36000000000000∧∀ i ∈ is,RI i
section
variable {w w':World} {n:Nat} {A:Option Addr} {is:List Itm}
theorem Its.len (h:Its w A n is):is.length=n:=by have:=h.1.1; rw [qCO] at this; omega
theorem Its.below (h:Its w A n is) (hb:Below w.heap.size w w'):Its w' A n is:=⟨(h.1.below hb).more hb.size,h.2⟩
theorem Its.at_ {k:Nat} (h:Its w A n is) (hk:k < n):∃ ad,A=some ad∧ad.block < w.heap.size∧w.cell? (ad.add (k * 2))=some (.int .i64 (im is k).1)∧w.cell? ⟨(ad.add (k * 2)).block,(ad.add (k * 2)).off+1,none⟩=some (.int .i32 (im is k).2)∧RI (im is k):=by
 obtain ⟨ad,e,hb,hc⟩:=h.1.2 (by omega)
 have hl:k < is.length:=by rw [h.len]; exact hk
 have f1:=hc (k * 2+1) (.int .i32 (im is k).2) (by rw [itsV_get is k 1 hl (by omega)]; rfl)
 rw [← qCM] at f1
 refine ⟨ad,e,hb,hc (k * 2) _ ?_,f1,?_⟩
 · have:=itsV_get is k 0 hl (by omega); rw [Nat.add_zero] at this; rw [this]; rfl
 · rw [im_eq hl]; exact h.2.2 _ (List.getElem_mem hl)
end
theorem qKC (w:World):Its w none 0 []:=⟨qB6.none_,by omega,by simp⟩
theorem itm_info:(Tryz.prog.info? 67).map (fun i=>(i.zero,i.size,i.bytes))=some (some (.agg #[.int .i64 0,.int .i32 0]),2,16):=by kernel_rfl
def OwnI (w:World) (base:Nat) (A:Option Addr) (m c:Nat) (is:List Itm):Prop:=
 w.ownsRow base 67 2 (.slice A m c) m (itsV is)∧m≤10000000000∧∀ i ∈ is,RI i
section
variable {w w':World} {base m c:Nat} {A:Option Addr} {is:List Itm}
end
theorem qHK (w:World) (base:Nat):OwnI w base none 0 0 []:=⟨World.ownsRow_nil _ _ _ _,by omega,by simp⟩
theorem qCC {W w0:World} {ops:Array Oper} {rest:List Oper} {o:Oper} {a:Act} {Q:Exit→Act→World→Prop} (hgd:o.guard=none) (s x:Operand) (t:TypeId)
 (ho:o.op=.call { callee:=.builtin .append,args:=#[s,x],argTypes:=#[t,t] }) (ht:Tryz.prog.underlying t=some (.slice 67))
 (base:Nat) (v:Value) (k:Nat) (is:List Itm) (hs:a.eval s=v) (hown:W.ownsRow base 67 2 v k (itsV is)) (u:Itm)
 (hx:a.eval x=.slice (some ⟨W.heap.size,0,none⟩) 1 1) (p r:Int) (hu:u=(p,r)) (hk:k≤1000000000000) (hb:Below base w0 W) (hbase:base≤W.heap.size)
 (h:∀ v' w',Hid (w'.ownsRow base 67 2 v' (k+1) (itsV (is++[u])))→Hid (Below base w0 w')→Hid (∀ k,k < W.heap.size→v.ownBlock≠some k→w'.heap[k]? = W.heap[k]?)→wpList Tryz.prog ops Q rest (a.put o.dst v') w') :
 wpList Tryz.prog ops Q (o :: rest) a (W.alloc (.cells #[.int .i64 p,.int .i32 r] 67)):=by
 obtain ⟨i0,hi,hz0,hz1,hz2⟩:=info_parts itm_info
 subst hu
 refine wpList_append_own _ hgd s x t ho base 67 i0 _ 2 16 ht hi hz0 hz1 hz2 rfl (by decide) v k _ hs (hown.alloc _) ⟨W.heap.size,0,none⟩ 1 1 [.int .i64 p,.int .i32 r] hx rfl (qDI W _ _) ?_ ?_ ?_ ?_ ?_
 · intro v hv
   simp only [List.mem_cons,List.not_mem_nil,or_false] at hv
   rcases hv with rfl | rfl <;> rfl
 · unfold maxLen; omega
 · omega
 · simp; omega
 · intro v' w' h1 h2 _
   refine h v' w' ?_ ?_ ?_
   · rw [qI8,itsV_one]; exact h1
   · refine (hb.alloc hbase _).grown h2 (by simp; omega) fun j hj=>?_
     exact (hown.lt j hj).1
   · intro k hk hne
     rw [h2.block k (by simp; omega) (fun e=>hne e.symm)]
     show (W.heap.push _)[k]? = _
     rw [Array.getElem?_push_lt hk,Array.getElem?_eq_getElem hk]
def sgB:ByteArray:=⟨#[45,43,37,226,128,176,194,164]⟩
def mkB:ByteArray:=⟨#[35,48,49,50,51,52,53,54,55,56,57,64,44,46,59,42]⟩
def otB:ByteArray:=⟨#[69,39]⟩
theorem sgB_eq:stz (encs sgs)=sgB:=by decide +kernel
theorem mkB_eq:stz (encs mks)=mkB:=by decide +kernel
theorem otB_eq:stz (encs oth)=otB:=by decide +kernel
theorem sg_step {k:Nat} (h:k < 5):Utf8.decode sgB (sgo k)=(sgn k,sgo (k+1) - sgo k)∧sgo k < sgB.size∧sgo k+(sgo (k+1) - sgo k)=sgo (k+1)∧sgo k≤6∧1≤sgo (k+1) - sgo k:=by
 have:k=0∨k=1∨k=2∨k=3∨k=4:=by omega
 rcases this with rfl | rfl | rfl | rfl | rfl <;> refine ⟨by decide +kernel,by decide,by decide,by decide,by decide⟩
theorem sg_end:¬ sgo 5 < sgB.size:=by decide
def BX (w:World) (g:Nat) (vs:Array Value) (T:TypeId):Prop:=w.heap[g]? = some (.cells vs T (0,0))
section
variable {w w':World} {g:Nat} {vs:Array Value} {T:TypeId}
theorem BX.c (h:BX w g vs T) (j:Nat):w.cell? ⟨g,j,none⟩=vs[j]?:=by rw [cell_of_row w g j _ _ _ h]
theorem BX.v {v:Value} (h:BX w g vs T) (j:Nat) (hv:vs[j]? = some v):w.cell? ⟨g,j,none⟩=some v:=(h.c j).trans hv
theorem BX.fr (h:BX w g vs T) (k:Nat):w.frozen? ⟨g,k,none⟩=false:=by simp [World.frozen?,show w.heap[g]? = _ from h]
theorem BX.below {B:Nat} (h:BX w g vs T) (hb:Below B w w') (hg:g < B):BX w' g vs T:=(hb.block g hg).trans h
theorem BX.new (w:World) (vs:Array Value) (T:TypeId):BX (w.alloc (.cells vs T)) w.heap.size vs T:=heap_alloc_new w _
theorem BX.lt (h:BX w g vs T):g < w.heap.size:=(Array.getElem?_eq_some_iff.1 h).1
theorem BX.alloc (h:BX w g vs T) (o:Obj):BX (w.alloc o) g vs T:=(heap_alloc_old w o h.lt).trans h
theorem BX.set2 {x y:Value} (h:BX w g #[x,y] T) (x' y':Value):BX ((w.setCell ⟨g,0,none⟩ x').setCell ⟨g,1,none⟩ y') g #[x',y'] T:=
 heap_setCell_same _ g 1 _ _ y' (heap_setCell_same w g 0 _ _ x' h)
theorem BX.set3 {x y z:Value} (h:BX w g #[x,y,z] T) (x' y' z':Value):BX (((w.setCell ⟨g,0,none⟩ x').setCell ⟨g,1,none⟩ y').setCell ⟨g,2,none⟩ z') g #[x',y',z'] T:=
 heap_setCell_same _ g 2 _ _ z' (heap_setCell_same _ g 1 _ _ y' (heap_setCell_same w g 0 _ _ x' h))
theorem Below.set3 {B:Nat} (h:Below B w w') (hg:B≤g) (x' y' z':Value):Below B w (((w'.setCell ⟨g,0,none⟩ x').setCell ⟨g,1,none⟩ y').setCell ⟨g,2,none⟩ z'):=
 (Below.set2 h hg x' y').setCell (p:=⟨g,2,none⟩) hg _
end
theorem ints_mem {x:Nat} {cs:List Nat}:((x:Nat):Int) ∈ ints cs↔x ∈ cs:=by
 constructor
 · intro h
   obtain ⟨y,hy,e⟩:=List.mem_map.1 h
   rwa [← Int.ofNat_inj.1 e]
 · exact fun h=>List.mem_map.2 ⟨x,h,rfl⟩
set_option maxHeartbeats 1000000 in
theorem has_c (s:ByteArray) (cs:List Nat) (hs:stz (encs cs)=s) (hc:allC cs=true) (r:Int) (w:World):Calls Tryz.prog 177 #[.string s,.int .i32 r] w fun e w'=>
 e=.returned (.bool (decide (r ∈ ints cs)))∧Below w.heap.size w w':=by
 have hcp:cps (bts s)=cs∧rst (bts s)=[]:=by rw [← hs,qAE (qJZ hc)]; exact ⟨cps_encs hc,rst_encs hc⟩
 have HCP:=hid hcp
 clear hcp hs
 generalize hg:w.heap.size=g at *
 have Hg:=hid hg
 clear hg
 have B0:=hid (show Below g w w by rw [← Hg.out]; exact Below.refl _ _)
 go_enter Tryz.func177,Tryz.ntmps177
 go_wp2
 rw [Hg.out]
 go_loopw [] (fun wr=>∃ (p:Nat) (ds:List Nat),Upto s p ds∧wr.heap[g]? = some (.stringIter s p)∧(∀ x ∈ ds,r≠(x:Int))∧Below g w wr) (fun wr=>s.size - wr.iterPos g)
 case atStart=>
  refine ⟨0,[],Upto.zero s,?_,fun x hx=>absurd hx (by simp),B0.out.alloc (by rw [Hg.out]; exact Nat.le_refl _) _⟩;rw [← Hg.out]; exact heap_alloc_new w _
 case round=>
  obtain ⟨p,ds,hu0,hit0,hds0,hb0⟩:=hrel;have HU:=hid hu0;have HIT:=hid hit0;have HD:=hid hds0;have HB:=hid hb0;have hple:=hu0.1;have hpos0:wr.iterPos g=p:=by simp [World.iterPos,hit0]
  have HPOS:=hid hpos0;clear hu0 hit0 hds0 hb0 hpos0
  by_cases hlt:p < s.size
  · have hnx:=Lib.run_next_any_at (P:=Tryz.prog) wr g s p 0 HIT.out hlt
    rcases hf:fstN ((bts s).drop p) with _ | c
    · exact absurd HCP.out.2 (HU.out.here hlt hf).2.1
    · obtain ⟨hcc,hu1,hd,hw1⟩:=HU.out.step hf
      rw [hd] at hnx;have HU1:=hid hu1;have HBQ:=hid (Lib.below_iterAt HB.out (Nat.le_refl g) s (p+(encN c).length));have HITQ:=hid (Lib.iterAt_heap wr g s p (p+(encN c).length) HIT.out);have hcle:=qFZ hcc;clear hu1 hd hf hcc
      by_cases hr:(c:Int)=r
      · subst hr
        have HM:=hid (show decide (((c:Nat):Int) ∈ ints cs)=true by
         rw [decide_eq_true_iff,ints_mem];have e:=HU1.out.scan.1;rw [HCP.out.1] at e;rw [e]; simp)
        go_wp2
        go_ret
        rw [HM.out];exact ⟨rfl,HBQ.out⟩
      · have g1:((c:Int) == r)=false:=by simpa using hr
        have HR:=hid (Ne.symm hr);clear hr
        go_wp2
        go_roundw
        case rel=>
         refine ⟨_,_,HU1.out,HITQ.out,fun x hx=>?_,HBQ.out⟩
         rcases List.mem_append.1 hx with hx | hx
         · exact HD.out x hx
         · rw [List.mem_singleton] at hx; subst hx; exact HR.out
        case measure=>
         have e1:(wr.iterAt g s (p+(encN c).length)).iterPos g=p+(encN c).length:=by simp [World.iterPos,HITQ.out]
         rw [HPOS.out,e1]; omega
  · have hnx:=Lib.run_next_end_at (P:=Tryz.prog) wr g s p 0 HIT.out hlt
    have HM:=hid (show decide (r ∈ ints cs)=false by
     rw [decide_eq_false_iff_not];intro hm;obtain ⟨x,hx,e⟩:=List.mem_map.1 hm;have e2:=(HU.out.end_ hlt).1;rw [HCP.out.1] at e2;rw [e2] at hx;exact HD.out x hx e.symm)
    go_wp2
    go_ret
    rw [HM.out];exact ⟨rfl,HB.out⟩
theorem hasS_c (r:Int) (w:World):Calls Tryz.prog 177 #[.string ⟨#[45,43,37,226,128,176,194,164]⟩,.int .i32 r] w fun e w'=>e=.returned (.bool (decide (r ∈ ints sgs)))∧Below w.heap.size w w':=
 has_c sgB sgs sgB_eq (by decide) r w
theorem hasM_c (r:Int) (w:World):Calls Tryz.prog 177 #[.string ⟨#[35,48,49,50,51,52,53,54,55,56,57,64,44,46,59,42]⟩,.int .i32 r] w fun e w'=>e=.returned (.bool (mrk r))∧Below w.heap.size w w':=
 has_c mkB mks mkB_eq (by decide) r w
theorem hasO_c (r:Int) (w:World):Calls Tryz.prog 177 #[.string ⟨#[69,39]⟩,.int .i32 r] w fun e w'=>e=.returned (.bool (decide (r ∈ ints oth)))∧Below w.heap.size w w':=
 has_c otB oth otB_eq (by decide) r w
set_option maxHeartbeats 1000000 in
theorem needs_c (r:Int) (w:World):Calls Tryz.prog 224 #[.int .i32 r] w fun e w'=>e=.returned (.bool (nds r))∧Below w.heap.size w w':=by
 have C1:=hid (hasS_c r)
 have C2:=hid (hasM_c r)
 have C3:=hid (hasO_c r)
 unfold nds
 generalize decide (r ∈ ints sgs)=a at *
 generalize mrk r=b at *
 generalize decide (r ∈ ints oth)=c at *
 cases a
 · cases b
   · go_enter Tryz.func224,Tryz.ntmps224
     go_wp2_with fail
     refine (C1.out _).mono ?_;rintro e w1 ⟨rfl,hb1⟩;have B1:=hid hb1;clear hb1
     go_wp2_with fail
     refine (C2.out _).mono ?_;rintro e w2 ⟨rfl,hb2⟩;have B2:=hid (B1.out.trans (hb2.mono B1.out.size));clear hb2
     go_wp2_with fail
     refine (C3.out _).mono ?_;rintro e w3 ⟨rfl,hb3⟩;have B3:=hid (B2.out.trans (hb3.mono B2.out.size));clear hb3
     go_wp2
     go_ret
     exact ⟨rfl,B3.out⟩
   · go_enter Tryz.func224,Tryz.ntmps224
     go_wp2_with fail
     refine (C1.out _).mono ?_;rintro e w1 ⟨rfl,hb1⟩;have B1:=hid hb1;clear hb1
     go_wp2_with fail
     refine (C2.out _).mono ?_;rintro e w2 ⟨rfl,hb2⟩;have B2:=hid (B1.out.trans (hb2.mono B1.out.size));clear hb2
     go_wp2
     go_ret
     exact ⟨rfl,B2.out⟩
 · go_enter Tryz.func224,Tryz.ntmps224
   go_wp2_with fail
   refine (C1.out _).mono ?_;rintro e w1 ⟨rfl,hb1⟩;have B1:=hid hb1;clear hb1
   go_wp2
   go_ret
   exact ⟨rfl,B1.out⟩
set_option maxHeartbeats 1000000 in
theorem item_c (r:Int) (q:Bool) (a:Int) (w:World):Calls Tryz.prog 178 #[.agg #[.int .i32 r,.bool q,.int .i64 a]] w fun e w'=>
 e=.returned (.agg #[.int .i64 (itm (r,q,a)).1,.int .i32 (itm (r,q,a)).2])∧Below w.heap.size w w':=by
 generalize hg:w.heap.size=g at *
 have Hg:=hid hg
 clear hg
 have A0:=(BX.new w #[.int .i32 r,.bool q,.int .i64 a] 58).alloc (.cells #[.int .i64 0,.int .i32 0] 67)
 have A1:=BX.new (w.alloc (.cells #[.int .i32 r,.bool q,.int .i64 a] 58)) #[.int .i64 0,.int .i32 0] 67
 rw [World.size_alloc,Hg.out] at A1
 rw [Hg.out] at A0
 have B1:=hid ((Below.refl (g+1+1) ((w.alloc (.cells #[.int .i32 r,.bool q,.int .i64 a] 58)).alloc (.cells #[.int .i64 0,.int .i32 0] 67))))
 have B0:=hid (((Below.refl g w).alloc (by rw [Hg.out]; exact Nat.le_refl _) (.cells #[.int .i32 r,.bool q,.int .i64 a] 58)).alloc (by rw [World.size_alloc,Hg.out]; omega) (.cells #[.int .i64 0,.int .i32 0] 67))
 have S1:((w.alloc (.cells #[.int .i32 r,.bool q,.int .i64 a] 58)).alloc (.cells #[.int .i64 0,.int .i32 0] 67)).heap.size=g+1+1:=by rw [World.size_alloc,World.size_alloc,Hg.out]
 have S1:=hid S1
 have A0:=hid A0
 have A1:=hid A1
 go_enter Tryz.func178,Tryz.ntmps178
 go_wp2
 rw [Hg.out]
 go_loopw [3] (fun kv wr=>∃ (k:Nat),k≤5∧kv=.int .i64 (2+(k:Int))∧wr.heap[g+1+1]? = some (.stringIter sgB (sgo k))∧(q=false→∀ j,j < k→r≠((sgn j:Nat):Int))∧Below (g+1+1) ((w.alloc (.cells #[.int .i32 r,.bool q,.int .i64 a] 58)).alloc (.cells #[.int .i64 0,.int .i32 0] 67)) wr) (fun _ wr=>sgB.size - wr.iterPos (g+1+1))
 case atStart=>
  refine ⟨0,by omega,rfl,?_,fun _ j hj=>absurd hj (by omega),B1.out.alloc (by rw [S1.out]; exact Nat.le_refl _) _⟩;rw [← S1.out]; exact heap_alloc_new _ _
 case round=>
  obtain ⟨k,hk,rfl,hit0,hno0,hb0⟩:=hrel;have HIT:=hid hit0;have HN:=hid hno0;have HB:=hid hb0;have hpos0:wr.iterPos (g+1+1)=sgo k:=by simp [World.iterPos,hit0]
  have HPOS:=hid hpos0;have cA0:wr.cell? ⟨g,0,none⟩=some (.int .i32 r):=(A0.out.below hb0 (by omega)).c 0;have cA1:wr.cell? ⟨g,1,none⟩=some (.bool q):=(A0.out.below hb0 (by omega)).c 1
  by_cases hlt:k < 5
  · obtain ⟨hd,hsz,hnx1,hle,hps⟩:=sg_step hlt
    have hnx:=Lib.run_next_any_at (P:=Tryz.prog) wr (g+1+1) sgB (sgo k) 0 HIT.out hsz;rw [hd] at hnx;dsimp only at hnx;rw [hnx1] at hnx;have HBQ0:=Lib.below_iterAt HB.out (Nat.le_refl (g+1+1)) sgB (sgo (k+1));have HBQ:=hid HBQ0;have HITQ:=hid (Lib.iterAt_heap wr (g+1+1) sgB (sgo k) (sgo (k+1)) HIT.out);have HK:=hid (sgK_sgn hlt);have d0:(wr.iterAt (g+1+1) sgB (sgo (k+1))).cell? ⟨g,0,none⟩=some (.int .i32 r):=(A0.out.below HBQ0 (by omega)).c 0;have d1:(wr.iterAt (g+1+1) sgB (sgo (k+1))).cell? ⟨g,1,none⟩=some (.bool q):=(A0.out.below HBQ0 (by omega)).c 1;have FX:=A1.out.below HBQ0 (by omega);have hm:sgB.size - sgo (k+1) < sgB.size - sgo k:=by omega
    have HM:=hid hm;clear hit0 hno0 hb0 hpos0 hm hd hnx1 hps HBQ0 cA0 cA1;generalize hW:wr.iterAt (g+1+1) sgB (sgo (k+1))=W at *;have HW:=hid hW;have e1:W.iterPos (g+1+1)=sgo (k+1):=by simp [World.iterPos,HITQ.out]
    have E1:=hid e1;clear hW e1;generalize hp:sgo (k+1)=p1 at *;have HP:=hid hp;clear hp;generalize hs:sgn k=sk at *;have HS:=hid hs;clear hs
    cases q
    · by_cases hr:(sk:Int)=r
      · subst hr
        have FE:=FX.set2 (.int .i64 (2+(k:Int))) (.int .i32 0);have e0:=FE.v 0 rfl;have e1:=FE.v 1 rfl;have BE:=hid (Below.set2 (B0.out.trans (HBQ.out.mono (by omega))) (show g≤g+1 by omega) (.int .i64 (2+(k:Int))) (.int .i32 0));have f0:=FX.v 0 rfl;have f1:=FX.v 1 rfl;have f2:=FX.fr 0;have f3:=FX.fr 1;have HV:=hid (show itm ((sk:Int),false,a)=(2+(k:Int),0) by rw [itm_s rfl (by dsimp only; rw [HK.out]; omega)]; dsimp only; rw [HK.out]);clear FE FX
        go_wp2
        generalize hWE:(W.setCell ⟨g+1,0,none⟩ (.int .i64 (2+(k:Int)))).setCell ⟨g+1,1,none⟩ (.int .i32 0)=WE at *;rw [HV.out];exact bodyPost_ret (v:=.agg #[.int .i64 (2+(k:Int)),.int .i32 0]) (by simp [results,Tryz.results178,go_sem,e0,e1]) rfl ⟨rfl,BE.out⟩
      · have g1:((sk:Int) == r)=false:=by simpa using hr
        have HR:=hid (Ne.symm hr);clear hr FX
        go_wp2
        go_roundw
        case rel=>
         refine ⟨k+1,by omega,by go_num,by rw [HP.out]; exact HITQ.out,fun _ j hj=>?_,HBQ.out⟩
         rcases Nat.lt_or_ge j k with hjk | hjk
         · exact HN.out rfl j hjk
         · obtain rfl:j=k:=by omega
           rw [HS.out]; exact HR.out
        case measure=>rw [HPOS.out,E1.out]; exact HM.out
    · clear FX
      go_wp2
      go_roundw
      case rel=>exact ⟨k+1,by omega,by go_num,by rw [HP.out]; exact HITQ.out,(fun h=>by cases h),HBQ.out⟩
      case measure=>rw [HPOS.out,E1.out]; exact HM.out
  · obtain rfl:k=5:=by omega
    have hnx:=Lib.run_next_end_at (P:=Tryz.prog) wr (g+1+1) sgB (sgo 5) 0 HIT.out sg_end;have FX:=A1.out.below hb0 (by omega);have FE:=FX.set2 (.int .i64 1) (.int .i32 r);have e0:=FE.v 0 rfl;have e1:=FE.v 1 rfl;have BE:=hid (Below.set2 (B0.out.trans (HB.out.mono (by omega))) (show g≤g+1 by omega) (.int .i64 1) (.int .i32 r));have f0:=FX.v 0 rfl;have f1:=FX.v 1 rfl;have f2:=FX.fr 0;have f3:=FX.fr 1;have HV:=hid (show itm (r,q,a)=(1,r) by
     cases q
     · exact itm_p (sgK_none fun j hj=>HN.out rfl j hj)
     · exact itm_q rfl)
    clear FE FX hit0 hno0 hb0 hpos0
    go_wp2
    generalize hWE:(wr.setCell ⟨g+1,0,none⟩ (.int .i64 1)).setCell ⟨g+1,1,none⟩ (.int .i32 r)=WE at *;rw [HV.out];exact bodyPost_ret (v:=.agg #[.int .i64 1,.int .i32 r]) (by simp [results,Tryz.results178,go_sem,e0,e1]) rfl ⟨rfl,BE.out⟩
def tlI (i:Itm):Tok:=if mayI i then tkI i else (0,false,0)
theorem qKD {i:Itm} (h:mayI i=true):tlI i=tkI i:=by rw [tlI,if_pos h]
theorem tlI_no {i:Itm} (h:mayI i=false):tlI i=(0,false,0):=by rw [tlI,if_neg (by rw [h]; decide)]
set_option maxHeartbeats 1000000 in
theorem tellLit_c (r:Int) (w:World) (hz:isZ r=true):Calls Tryz.prog 166 #[.agg #[.int .i64 1,.int .i32 r]] w fun e w'=>
 e=.returned (.tuple #[.agg #[.int .i32 r,.bool (nds r),.int .i64 0],.bool true])∧Below w.heap.size w w':=by
 have CZ:=hid (qFJ r)
 rw [hz] at CZ
 have CN:=hid (needs_c r)
 generalize nds r=N at *
 clear hz
 generalize hg:w.heap.size=g at *
 have Hg:=hid hg
 clear hg
 have A0:=(BX.new w #[.int .i64 1,.int .i32 r] 67).alloc (.cells #[.int .i32 0,.bool false,.int .i64 0] 58)
 have A1:=BX.new (w.alloc (.cells #[.int .i64 1,.int .i32 r] 67)) #[.int .i32 0,.bool false,.int .i64 0] 58
 rw [World.size_alloc,Hg.out] at A1
 rw [Hg.out] at A0
 have B0:=(((Below.refl g w).alloc (by rw [Hg.out]; exact Nat.le_refl _) (.cells #[.int .i64 1,.int .i32 r] 67)).alloc (by rw [World.size_alloc,Hg.out]; omega) (.cells #[.int .i32 0,.bool false,.int .i64 0] 58))
 have S1:((w.alloc (.cells #[.int .i64 1,.int .i32 r] 67)).alloc (.cells #[.int .i32 0,.bool false,.int .i64 0] 58)).heap.size=g+1+1:=by rw [World.size_alloc,World.size_alloc,Hg.out]
 generalize hW:((w.alloc (.cells #[.int .i64 1,.int .i32 r] 67)).alloc (.cells #[.int .i32 0,.bool false,.int .i64 0] 58))=W at *
 have HW:=hid hW
 clear hW
 have S1:=hid S1
 have B0:=hid B0
 have c0:W.cell? ⟨g,0,none⟩=some (.int .i64 1):=A0.c 0
 have c1:W.cell? ⟨g,1,none⟩=some (.int .i32 r):=A0.c 1
 have A0:=hid A0
 have A1:=hid A1
 go_enter Tryz.func166,Tryz.ntmps166
 go_wp2_with fail
 rw [HW.out,Hg.out]
 refine (CZ.out W).mono ?_
 rintro e w1 ⟨rfl,rfl⟩
 have hgs0:g < W.drew.heap.size:=by show g < W.heap.size; have:=S1.out; omega
 have hgs:g+1 < W.drew.heap.size:=by show g+1 < W.heap.size; have:=S1.out; omega
 have hgl:g≤W.drew.heap.size:=by show g≤W.heap.size; have:=S1.out; omega
 have A1d:Hid (BX W.drew (g+1) #[.int .i32 0,.bool false,.int .i64 0] 58):=hid A1.out
 have B0d:=hid B0.out.drew
 go_wp2
 go_region_with (go_at_call 224; refine (CN.out _).mono ?_; rintro e W5 ⟨rfl,hb5⟩; have c5:W5.cell? ⟨g,1,none⟩=some (.int .i32 r):=(hb5.cell (p:=⟨g,1,none⟩) hgs0).trans c1; have F5:=A1d.out.below hb5 hgs; have B5:=hid (B0d.out.trans (hb5.mono hgl)); have f0:W5.cell? ⟨g+1,0,none⟩=some (.int .i32 0):=F5.c 0; have f1:W5.cell? ⟨g+1,1,none⟩=some (.bool false):=F5.c 1; have f2:W5.cell? ⟨g+1,2,none⟩=some (.int .i64 0):=F5.c 2; have f3:=F5.fr 0; have f4:=F5.fr 1; have f5:=F5.fr 2; have F5:=hid F5; clear hb5)
 all_goals
  have FE:=F5.out.set3 (.int .i32 r) (.bool N) (.int .i64 0);have e0:=FE.v 0 rfl;have e1:=FE.v 1 rfl;have e2:=FE.v 2 rfl;have BE:=hid (Below.set3 B5.out (show g≤g+1 by omega) (.int .i32 r) (.bool N) (.int .i64 0));clear FE
  go_wp2
  generalize hWE:((W5.setCell ⟨g+1,0,none⟩ (.int .i32 r)).setCell ⟨g+1,1,none⟩ (.bool N)).setCell ⟨g+1,2,none⟩ (.int .i64 0)=WE at *;exact bodyPost_ret (v:=.tuple #[.agg #[.int .i32 r,.bool N,.int .i64 0],.bool true]) (by simp [results,Tryz.results166,go_sem,e0,e1,e2]) rfl ⟨rfl,BE.out⟩
set_option maxHeartbeats 1000000 in
theorem tellSign_c (a r:Int) (w:World) (hno:a=1→isZ r=false):Calls Tryz.prog 166 #[.agg #[.int .i64 a,.int .i32 r]] w fun e w'=>
 e=.returned (.tuple #[.agg #[.int .i32 (tlI (a,r)).1,.bool (tlI (a,r)).2.1,.int .i64 (tlI (a,r)).2.2],.bool (mayI (a,r))])∧Below w.heap.size w w':=by
 have HNO:=hid hno
 clear hno
 generalize hg:w.heap.size=g at *
 have Hg:=hid hg
 clear hg
 have A0:=(BX.new w #[.int .i64 a,.int .i32 r] 67).alloc (.cells #[.int .i32 0,.bool false,.int .i64 0] 58)
 have A1:=BX.new (w.alloc (.cells #[.int .i64 a,.int .i32 r] 67)) #[.int .i32 0,.bool false,.int .i64 0] 58
 rw [World.size_alloc,Hg.out] at A1
 rw [Hg.out] at A0
 have B0:=(((Below.refl g w).alloc (by rw [Hg.out]; exact Nat.le_refl _) (.cells #[.int .i64 a,.int .i32 r] 67)).alloc (by rw [World.size_alloc,Hg.out]; omega) (.cells #[.int .i32 0,.bool false,.int .i64 0] 58))
 have S1:((w.alloc (.cells #[.int .i64 a,.int .i32 r] 67)).alloc (.cells #[.int .i32 0,.bool false,.int .i64 0] 58)).heap.size=g+1+1:=by rw [World.size_alloc,World.size_alloc,Hg.out]
 generalize hW:((w.alloc (.cells #[.int .i64 a,.int .i32 r] 67)).alloc (.cells #[.int .i32 0,.bool false,.int .i64 0] 58))=W at *
 have HW:=hid hW
 clear hW
 have B1:=hid (Below.refl (g+1+1) W)
 have c0:W.cell? ⟨g,0,none⟩=some (.int .i64 a):=A0.c 0
 have c1:W.cell? ⟨g,1,none⟩=some (.int .i32 r):=A0.c 1
 have A0:=hid A0
 have A1:=hid A1
 have S1:=hid S1
 have B0:=hid B0
 by_cases ha:a=1
 · have ga:(a == 1)=true:=by simpa using ha
   have CZ:=hid (qFJ r);rw [HNO.out ha] at CZ;clear ha
   go_enter Tryz.func166,Tryz.ntmps166
   go_wp2_with fail
   rw [HW.out,Hg.out];refine (CZ.out W).mono ?_;rintro e w1 ⟨rfl,rfl⟩
   go_wp2
   have HAR:Hid (a=1→isZ r=false):=HNO
   go_loopw [4] (fun kv wr=>∃ (k:Nat),k≤5∧kv=.int .i64 (2+(k:Int))∧wr.heap[g+1+1]? = some (.stringIter sgB (sgo k))∧(∀ j:Nat,j < k→¬ (a=2+(j:Int)∧r=0))∧Below (g+1+1) W wr) (fun _ wr=>sgB.size - wr.iterPos (g+1+1))
   case atStart=>
    refine ⟨0,by omega,rfl,?_,fun j hj=>absurd hj (by omega),B1.out.alloc (by rw [S1.out]; exact Nat.le_refl _) _⟩;rw [← S1.out]; exact heap_alloc_new _ _
   case round=>
    obtain ⟨k,hk,rfl,hit0,hno0,hb0⟩:=hrel;have HIT:=hid hit0;have HN:=hid hno0;have HB:=hid hb0;have hpos0:wr.iterPos (g+1+1)=sgo k:=by simp [World.iterPos,hit0]
    have HPOS:=hid hpos0
    by_cases hlt:k < 5
    · obtain ⟨hd,hsz,hnx1,hle,hps⟩:=sg_step hlt
      have hnx:=Lib.run_next_any_at (P:=Tryz.prog) wr (g+1+1) sgB (sgo k) 0 HIT.out hsz;rw [hd] at hnx;dsimp only at hnx;rw [hnx1] at hnx;have HBQ0:=Lib.below_iterAt HB.out (Nat.le_refl (g+1+1)) sgB (sgo (k+1));have HBQ:=hid HBQ0;have HITQ:=hid (Lib.iterAt_heap wr (g+1+1) sgB (sgo k) (sgo (k+1)) HIT.out);have d0:(wr.iterAt (g+1+1) sgB (sgo (k+1))).cell? ⟨g,0,none⟩=some (.int .i64 a):=(A0.out.below HBQ0 (by omega)).c 0;have d1:(wr.iterAt (g+1+1) sgB (sgo (k+1))).cell? ⟨g,1,none⟩=some (.int .i32 r):=(A0.out.below HBQ0 (by omega)).c 1;have FX:=A1.out.below HBQ0 (by omega);have hm:sgB.size - sgo (k+1) < sgB.size - sgo k:=by omega
      have HM:=hid hm;clear hit0 hno0 hb0 hpos0 hm hd hnx1 hps HBQ0;generalize hW:wr.iterAt (g+1+1) sgB (sgo (k+1))=W1 at *;have e1:W1.iterPos (g+1+1)=sgo (k+1):=by simp [World.iterPos,HITQ.out]
      have E1:=hid e1;have HWQ:=hid hW;clear hW e1;generalize hp:sgo (k+1)=p1 at *;have HP:=hid hp;clear hp
      by_cases hak:a=2+(k:Int)
      · by_cases hr0:r=0
        · subst hak hr0
          have HV:=hid (show tlI (2+(k:Int),0)=(((sgn k:Nat):Int),false,0)∧mayI (2+(k:Int),0)=true by
           have hm:mayI (2+(k:Int),0)=true:=qD1.2 (.inr ⟨by omega,by omega,rfl⟩);rw [qKD hm,qHI]; exact ⟨rfl,hm⟩)
          generalize sgn k=sk at *;have FE:=FX.set3 (.int .i32 (sk:Int)) (.bool false) (.int .i64 0);have e0:=FE.v 0 rfl;have e1:=FE.v 1 rfl;have e2:=FE.v 2 rfl;have BE:=hid (Below.set3 (B0.out.trans (HBQ.out.mono (by omega))) (show g≤g+1 by omega) (.int .i32 (sk:Int)) (.bool false) (.int .i64 0));have f0:=FX.v 0 rfl;have f1:=FX.v 1 rfl;have f2:=FX.v 2 rfl;have f3:=FX.fr 0;have f4:=FX.fr 1;have f5:=FX.fr 2;clear FE FX
          go_wp2
          generalize hWE:((W1.setCell ⟨g+1,0,none⟩ (.int .i32 (sk:Int))).setCell ⟨g+1,1,none⟩ (.bool false)).setCell ⟨g+1,2,none⟩ (.int .i64 0)=WE at *;rw [HV.out.1,HV.out.2];exact bodyPost_ret (v:=.tuple #[.agg #[.int .i32 (sk:Int),.bool false,.int .i64 0],.bool true]) (by simp [results,Tryz.results166,go_sem,e0,e1,e2]) rfl ⟨rfl,BE.out⟩
        · have g2:(r == 0)=false:=by simpa using hr0
          have HR:=hid hr0;subst hak;clear hr0 FX
          go_wp2
          go_roundw
          case rel=>
           refine ⟨k+1,by omega,by go_num,by rw [HP.out]; exact HITQ.out,fun j hj=>?_,HBQ.out⟩;exact fun e=>HR.out e.2
          case measure=>rw [HPOS.out,E1.out]; exact HM.out
      · have g2:(a == 2+(k:Int))=false:=by simpa using hak
        have HR:=hid hak;clear hak FX
        go_wp2
        go_roundw
        case rel=>
         refine ⟨k+1,by omega,by go_num,by rw [HP.out]; exact HITQ.out,fun j hj=>?_,HBQ.out⟩
         rcases Nat.lt_or_ge j k with hjk | hjk
         · exact HN.out j hjk
         · obtain rfl:j=k:=by omega
           exact fun e=>HR.out e.1
        case measure=>rw [HPOS.out,E1.out]; exact HM.out
    · obtain rfl:k=5:=by omega
      have hnx:=Lib.run_next_end_at (P:=Tryz.prog) wr (g+1+1) sgB (sgo 5) 0 HIT.out sg_end;have FX:=A1.out.below hb0 (by omega);have FE:=FX.set3 (.int .i32 0) (.bool false) (.int .i64 0);have e0:=FE.v 0 rfl;have e1:=FE.v 1 rfl;have e2:=FE.v 2 rfl;have BE:=hid (Below.set3 (B0.out.trans (HB.out.mono (by omega))) (show g≤g+1 by omega) (.int .i32 0) (.bool false) (.int .i64 0));have f0:=FX.v 0 rfl;have f1:=FX.v 1 rfl;have f2:=FX.v 2 rfl;have f3:=FX.fr 0;have f4:=FX.fr 1;have f5:=FX.fr 2;have HV:=hid (show mayI (a,r)=false by
       rw [Bool.eq_false_iff];intro h
       rcases qD1.1 h with ⟨h1,h2⟩ | ⟨h1,h2,h3⟩
       · rw [HAR.out h1] at h2; cases h2
       · exact HN.out (a.toNat - 2) (by omega) ⟨by omega,h3⟩)
      clear FE FX hit0 hno0 hb0 hpos0
      go_wp2
      generalize hWE:((wr.setCell ⟨g+1,0,none⟩ (.int .i32 0)).setCell ⟨g+1,1,none⟩ (.bool false)).setCell ⟨g+1,2,none⟩ (.int .i64 0)=WE at *;rw [tlI_no HV.out,HV.out];exact bodyPost_ret (v:=.tuple #[.agg #[.int .i32 0,.bool false,.int .i64 0],.bool false]) (by simp [results,Tryz.results166,go_sem,e0,e1,e2]) rfl ⟨rfl,BE.out⟩
 · have ga:(a == 1)=false:=by simpa using ha
   clear ha
   go_enter Tryz.func166,Tryz.ntmps166
   go_wp2
   rw [HW.out,Hg.out];have HAR:Hid (a=1→isZ r=false):=HNO
   go_loopw [4] (fun kv wr=>∃ (k:Nat),k≤5∧kv=.int .i64 (2+(k:Int))∧wr.heap[g+1+1]? = some (.stringIter sgB (sgo k))∧(∀ j:Nat,j < k→¬ (a=2+(j:Int)∧r=0))∧Below (g+1+1) W wr) (fun _ wr=>sgB.size - wr.iterPos (g+1+1))
   case atStart=>
    refine ⟨0,by omega,rfl,?_,fun j hj=>absurd hj (by omega),B1.out.alloc (by rw [S1.out]; exact Nat.le_refl _) _⟩;rw [← S1.out]; exact heap_alloc_new _ _
   case round=>
    obtain ⟨k,hk,rfl,hit0,hno0,hb0⟩:=hrel;have HIT:=hid hit0;have HN:=hid hno0;have HB:=hid hb0;have hpos0:wr.iterPos (g+1+1)=sgo k:=by simp [World.iterPos,hit0]
    have HPOS:=hid hpos0
    by_cases hlt:k < 5
    · obtain ⟨hd,hsz,hnx1,hle,hps⟩:=sg_step hlt
      have hnx:=Lib.run_next_any_at (P:=Tryz.prog) wr (g+1+1) sgB (sgo k) 0 HIT.out hsz;rw [hd] at hnx;dsimp only at hnx;rw [hnx1] at hnx;have HBQ0:=Lib.below_iterAt HB.out (Nat.le_refl (g+1+1)) sgB (sgo (k+1));have HBQ:=hid HBQ0;have HITQ:=hid (Lib.iterAt_heap wr (g+1+1) sgB (sgo k) (sgo (k+1)) HIT.out);have d0:(wr.iterAt (g+1+1) sgB (sgo (k+1))).cell? ⟨g,0,none⟩=some (.int .i64 a):=(A0.out.below HBQ0 (by omega)).c 0;have d1:(wr.iterAt (g+1+1) sgB (sgo (k+1))).cell? ⟨g,1,none⟩=some (.int .i32 r):=(A0.out.below HBQ0 (by omega)).c 1;have FX:=A1.out.below HBQ0 (by omega);have hm:sgB.size - sgo (k+1) < sgB.size - sgo k:=by omega
      have HM:=hid hm;clear hit0 hno0 hb0 hpos0 hm hd hnx1 hps HBQ0;generalize hW:wr.iterAt (g+1+1) sgB (sgo (k+1))=W1 at *;have e1:W1.iterPos (g+1+1)=sgo (k+1):=by simp [World.iterPos,HITQ.out]
      have E1:=hid e1;have HWQ:=hid hW;clear hW e1;generalize hp:sgo (k+1)=p1 at *;have HP:=hid hp;clear hp
      by_cases hak:a=2+(k:Int)
      · by_cases hr0:r=0
        · subst hak hr0
          have HV:=hid (show tlI (2+(k:Int),0)=(((sgn k:Nat):Int),false,0)∧mayI (2+(k:Int),0)=true by
           have hm:mayI (2+(k:Int),0)=true:=qD1.2 (.inr ⟨by omega,by omega,rfl⟩);rw [qKD hm,qHI]; exact ⟨rfl,hm⟩)
          generalize sgn k=sk at *;have FE:=FX.set3 (.int .i32 (sk:Int)) (.bool false) (.int .i64 0);have e0:=FE.v 0 rfl;have e1:=FE.v 1 rfl;have e2:=FE.v 2 rfl;have BE:=hid (Below.set3 (B0.out.trans (HBQ.out.mono (by omega))) (show g≤g+1 by omega) (.int .i32 (sk:Int)) (.bool false) (.int .i64 0));have f0:=FX.v 0 rfl;have f1:=FX.v 1 rfl;have f2:=FX.v 2 rfl;have f3:=FX.fr 0;have f4:=FX.fr 1;have f5:=FX.fr 2;clear FE FX
          go_wp2
          generalize hWE:((W1.setCell ⟨g+1,0,none⟩ (.int .i32 (sk:Int))).setCell ⟨g+1,1,none⟩ (.bool false)).setCell ⟨g+1,2,none⟩ (.int .i64 0)=WE at *;rw [HV.out.1,HV.out.2];exact bodyPost_ret (v:=.tuple #[.agg #[.int .i32 (sk:Int),.bool false,.int .i64 0],.bool true]) (by simp [results,Tryz.results166,go_sem,e0,e1,e2]) rfl ⟨rfl,BE.out⟩
        · have g2:(r == 0)=false:=by simpa using hr0
          have HR:=hid hr0;subst hak;clear hr0 FX
          go_wp2
          go_roundw
          case rel=>
           refine ⟨k+1,by omega,by go_num,by rw [HP.out]; exact HITQ.out,fun j hj=>?_,HBQ.out⟩;exact fun e=>HR.out e.2
          case measure=>rw [HPOS.out,E1.out]; exact HM.out
      · have g2:(a == 2+(k:Int))=false:=by simpa using hak
        have HR:=hid hak;clear hak FX
        go_wp2
        go_roundw
        case rel=>
         refine ⟨k+1,by omega,by go_num,by rw [HP.out]; exact HITQ.out,fun j hj=>?_,HBQ.out⟩
         rcases Nat.lt_or_ge j k with hjk | hjk
         · exact HN.out j hjk
         · obtain rfl:j=k:=by omega
           exact fun e=>HR.out e.1
        case measure=>rw [HPOS.out,E1.out]; exact HM.out
    · obtain rfl:k=5:=by omega
      have hnx:=Lib.run_next_end_at (P:=Tryz.prog) wr (g+1+1) sgB (sgo 5) 0 HIT.out sg_end;have FX:=A1.out.below hb0 (by omega);have FE:=FX.set3 (.int .i32 0) (.bool false) (.int .i64 0);have e0:=FE.v 0 rfl;have e1:=FE.v 1 rfl;have e2:=FE.v 2 rfl;have BE:=hid (Below.set3 (B0.out.trans (HB.out.mono (by omega))) (show g≤g+1 by omega) (.int .i32 0) (.bool false) (.int .i64 0));have f0:=FX.v 0 rfl;have f1:=FX.v 1 rfl;have f2:=FX.v 2 rfl;have f3:=FX.fr 0;have f4:=FX.fr 1;have f5:=FX.fr 2;have HV:=hid (show mayI (a,r)=false by
       rw [Bool.eq_false_iff];intro h
       rcases qD1.1 h with ⟨h1,h2⟩ | ⟨h1,h2,h3⟩
       · rw [HAR.out h1] at h2; cases h2
       · exact HN.out (a.toNat - 2) (by omega) ⟨by omega,h3⟩)
      clear FE FX hit0 hno0 hb0 hpos0
      go_wp2
      generalize hWE:((wr.setCell ⟨g+1,0,none⟩ (.int .i32 0)).setCell ⟨g+1,1,none⟩ (.bool false)).setCell ⟨g+1,2,none⟩ (.int .i64 0)=WE at *;rw [tlI_no HV.out,HV.out];exact bodyPost_ret (v:=.tuple #[.agg #[.int .i32 0,.bool false,.int .i64 0],.bool false]) (by simp [results,Tryz.results166,go_sem,e0,e1,e2]) rfl ⟨rfl,BE.out⟩
theorem affTell_c (a r:Int) (w:World):Calls Tryz.prog 166 #[.agg #[.int .i64 a,.int .i32 r]] w fun e w'=>
 e=.returned (.tuple #[.agg #[.int .i32 (tlI (a,r)).1,.bool (tlI (a,r)).2.1,.int .i64 (tlI (a,r)).2.2],.bool (mayI (a,r))])∧Below w.heap.size w w':=by
 by_cases h:a=1∧isZ r=true
 · obtain ⟨rfl,hz⟩:=h
   have hm:mayI (1,r)=true:=qD1.2 (.inl ⟨rfl,hz⟩);rw [qKD hm,hm,qKB];exact tellLit_c r w hz
 · exact tellSign_c a r w fun ha=>by
    rcases hz:isZ r with _ | _
    · rfl
    · exact absurd ⟨ha,hz⟩ h
end Go.Proofs.YtnoeonaajefajaaGreatDoor
