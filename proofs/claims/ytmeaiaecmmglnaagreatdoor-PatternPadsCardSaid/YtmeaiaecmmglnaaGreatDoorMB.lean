import Derived.Laws.AppendOwnNone
import Derived.Laws.Cover4
import Derived.Handy
import Derived.Test.YtmeaiaecmmglnaaGreatDoorMA
set_option linter.all false
set_option maxRecDepth 100000
namespace Go.Proofs.YtmeaiaecmmglnaaGreatDoor
abbrev Tok:=Int × Bool × Int
def er (t:Tok):Int × Bool:=(t.1,t.2.1)
def scn:List Nat→Nat→Int→List Tok × Int
 | [],_,o=>([],o)
 | [c],a,o=>if c=39 then ([],if o < 0 then (a:Int) else -1) else ([((c:Int),decide (0≤o),(a:Int))],o)
 | c :: d :: cs,a,o=>
  if c=39∧d=39 then ((39,true,(a:Int)) :: (scn cs (a+2) o).1,(scn cs (a+2) o).2)
  else if c=39 then scn (d :: cs) (a+1) (if o < 0 then (a:Int) else -1)
  else (((c:Int),decide (0≤o),(a:Int)) :: (scn (d :: cs) (a+(encN c).length) o).1,(scn (d :: cs) (a+(encN c).length) o).2)
theorem qF9 (a:Nat) (o:Int):scn [] a o=([],o):=rfl
theorem qCF (cs:List Nat) (a:Nat) (o:Int):scn (39 :: 39 :: cs) a o=((39,true,(a:Int)) :: (scn cs (a+2) o).1,(scn cs (a+2) o).2):=by
 simp [scn]
theorem qC1 {cs:List Nat} (h:cs.head?≠some 39) (a:Nat) (o:Int):scn (39 :: cs) a o=scn cs (a+1) (if o < 0 then (a:Int) else -1):=by
 cases cs with
 | nil=>simp [scn]
 | cons d cs=>
  have hd:d≠39:=fun e=>h (by rw [e]; rfl)
  rw [scn,if_neg (fun e=>hd e.2),if_pos rfl]
theorem qB4 {c:Nat} (h:c≠39) (cs:List Nat) (a:Nat) (o:Int) :
 scn (c :: cs) a o=(((c:Int),decide (0≤o),(a:Int)) :: (scn cs (a+(encN c).length) o).1,(scn cs (a+(encN c).length) o).2):=by
 cases cs with
 | nil=>simp [scn,h]
 | cons d cs=>rw [scn,if_neg (fun e=>h e.1),if_neg h]
theorem qGA {P:List Nat→Prop} (h0:P []) (h2:∀ cs,P cs→P (39 :: 39 :: cs)) (h1:∀ cs,cs.head?≠some 39→P cs→P (39 :: cs)) (he:∀ c cs,c≠39→P cs→P (c :: cs)) (cs:List Nat):P cs:=by
 have hgen:∀ (n:Nat) (cs:List Nat),cs.length≤n→P cs:=by
  intro n
  induction n with
  | zero=>intro cs h; rw [List.eq_nil_of_length_eq_zero (by omega:cs.length=0)]; exact h0
  | succ n ih=>
   intro cs h
   cases cs with
   | nil=>exact h0
   | cons c cs=>
    simp only [List.length_cons] at h
    by_cases hc:c=39
    · subst hc
      cases cs with
      | nil=>exact h1 [] (by simp) h0
      | cons d cs=>
       simp only [List.length_cons] at h
       by_cases hd:d=39
       · subst hd; exact h2 cs (ih cs (by omega))
       · exact h1 (d :: cs) (by simp [hd]) (ih _ (by simp only [List.length_cons]; omega))
    · exact he c cs hc (ih cs (by omega))
 exact hgen _ cs (Nat.le_refl _)
theorem scn_len (cs:List Nat):∀ (a:Nat) (o:Int),(scn cs a o).1.length≤cs.length:=by
 induction cs using qGA with
 | h0=>intro a o; simp [qF9]
 | h2 cs ih=>intro a o; rw [qCF]; have:=ih (a+2) o; simp only [List.length_cons]; omega
 | h1 cs h ih=>intro a o; rw [qC1 h]; have:=ih (a+1) (if o < 0 then (a:Int) else -1); simp only [List.length_cons]; omega
 | he c cs h ih=>intro a o; rw [qB4 h]; have:=ih (a+(encN c).length) o; simp only [List.length_cons]; omega
theorem scn_range (cs:List Nat):∀ (a:Nat) (o:Int),-1≤o→o≤(a:Int)+(encs cs).length →
 (-1≤(scn cs a o).2∧(scn cs a o).2≤(a:Int)+(encs cs).length)∧∀ t ∈ (scn cs a o).1,0≤t.2.2∧t.2.2≤(a:Int)+(encs cs).length:=by
 induction cs using qGA with
 | h0=>intro a o h h'; exact ⟨⟨h,h'⟩,by simp [qF9]⟩
 | h2 cs ih=>
  intro a o h h';have e:(encs (39 :: 39 :: cs)).length=2+(encs cs).length:=by
   rw [qAB,qAB,List.length_append,List.length_append]
   show 1+(1+_)=_
   omega
  rw [e] at h' ⊢;rw [qCF];obtain ⟨i1,i2⟩:=ih (a+2) o h (by omega);refine ⟨⟨i1.1,by have:=i1.2; omega⟩,?_⟩;intro t ht
  rcases List.mem_cons.1 ht with rfl | ht
  · refine ⟨?_,?_⟩ <;> dsimp only <;> omega
  · have:=i2 t ht; omega
 | h1 cs hh ih=>
  intro a o h h';have e:(encs (39 :: cs)).length=1+(encs cs).length:=by
   rw [qAB,List.length_append];rfl
  rw [e] at h' ⊢;rw [qC1 hh];obtain ⟨i1,i2⟩:=ih (a+1) (if o < 0 then (a:Int) else -1) (by split <;> omega) (by split <;> omega);refine ⟨⟨i1.1,by have:=i1.2; omega⟩,?_⟩;intro t ht;have:=i2 t ht; omega
 | he c cs hc ih=>
  intro a o h h';have e:(encs (c :: cs)).length=(encN c).length+(encs cs).length:=by rw [qAB,List.length_append]
  rw [e] at h' ⊢;rw [qB4 hc];obtain ⟨i1,i2⟩:=ih (a+(encN c).length) o h (by omega);refine ⟨⟨i1.1,by have:=i1.2; omega⟩,?_⟩;intro t ht
  rcases List.mem_cons.1 ht with rfl | ht
  · refine ⟨?_,?_⟩ <;> dsimp only <;> omega
  · have:=i2 t ht; omega
def mayT (t:Tok):Bool:=isZ t.1 && (t.2.1 || !decide (t.1=39))
theorem scn_may (cs:List Nat):∀ (a:Nat) (o:Int),allC cs=true→(scn cs a o).1.all mayT=true:=by
 induction cs using qGA with
 | h0=>intro a o _; rfl
 | h2 cs ih=>
  intro a o h;rw [qCF,List.all_cons,ih _ _ (qB7.1 (qB7.1 h).2).2];rfl
 | h1 cs hh ih=>intro a o h; rw [qC1 hh]; exact ih _ _ (qB7.1 h).2
 | he c cs hc ih=>
  intro a o h;obtain ⟨h1,h2⟩:=qB7.1 h;rw [qB4 hc,List.all_cons,ih _ _ h2,Bool.and_true];simp only [mayT,qBG,h1,Bool.true_and,Bool.or_eq_true,Bool.not_eq_true',decide_eq_false_iff_not];exact .inr (by omega)
theorem scn_same (cs:List Nat):∀ (a a':Nat) (o o':Int),(0≤o↔0≤o')→(scn cs a o).1.map er=(scn cs a' o').1.map er∧(0≤(scn cs a o).2↔0≤(scn cs a' o').2):=by
 induction cs using qGA with
 | h0=>intro a a' o o' h; exact ⟨rfl,h⟩
 | h2 cs ih=>
  intro a a' o o' h;obtain ⟨i1,i2⟩:=ih (a+2) (a'+2) o o' h;rw [qCF,qCF];exact ⟨by rw [List.map_cons,List.map_cons,i1]; rfl,i2⟩
 | h1 cs hh ih=>
  intro a a' o o' h;rw [qC1 hh,qC1 hh];exact ih _ _ _ _ (by split <;> split <;> omega)
 | he c cs hc ih=>
  intro a a' o o' h;obtain ⟨i1,i2⟩:=ih (a+(encN c).length) (a'+(encN c).length) o o' h;rw [qB4 hc,qB4 hc];refine ⟨?_,i2⟩;rw [List.map_cons,List.map_cons,i1];simp only [er,decide_eq_decide.2 h]
def dbl (row:List Int):List Int:=row.flatMap fun r=>if r=39 then [39,39] else [r]
theorem dbl_nil:dbl []=[]:=rfl
theorem qDM (r:Int) (row:List Int):dbl (r :: row)=(if r=39 then [39,39] else [r])++dbl row:=by simp [dbl]
theorem qII (xs ys:List Int):dbl (xs++ys)=dbl xs++dbl ys:=by simp [dbl]
theorem dbl_one (r:Int):dbl [r]=if r=39 then [39,39] else [r]:=by rw [qDM,dbl_nil,List.append_nil]
theorem dbl_len (row:List Int):(dbl row).length≤2 * row.length:=by
 induction row with
 | nil=>simp [dbl_nil]
 | cons r row ih=>rw [qDM,List.length_append]; simp only [List.length_cons]; split <;> simp <;> omega
def inQ (row:List Int):List Int:=if row.all (fun r=>decide (r=39)) then dbl row else 39 :: (dbl row++[39])
theorem qJ5 (row:List Int):(inQ row).length≤2 * row.length+2:=by
 have:=dbl_len row
 unfold inQ; split
 · omega
 · simp only [List.length_cons,List.length_append,List.length_nil]; omega
def prt:List Tok→List Int→List Int
 | [],row=>inQ row
 | t :: ts,row=>if t.2.1 then prt ts (row++[t.1]) else inQ row++t.1 :: prt ts []
theorem qJ6 (row:List Int):prt [] row=inQ row:=rfl
theorem prt_q {t:Tok} (h:t.2.1=true) (ts:List Tok) (row:List Int):prt (t :: ts) row=prt ts (row++[t.1]):=by rw [prt,if_pos h]
theorem prt_p {t:Tok} (h:t.2.1=false) (ts:List Tok) (row:List Int):prt (t :: ts) row=inQ row++t.1 :: prt ts []:=by rw [prt,if_neg (by rw [h]; decide)]
theorem prt_len (ts:List Tok):∀ row,(prt ts row).length≤2 * row.length+4 * ts.length+2:=by
 induction ts with
 | nil=>intro row; rw [qJ6]; have:=qJ5 row; simp only [List.length_nil]; omega
 | cons t ts ih=>
  intro row
  rcases ht:t.2.1 with _ | _
  · rw [prt_p ht]
    have:=ih [];have:=qJ5 row;simp only [List.length_cons,List.length_append,List.length_nil] at *; omega
  · rw [prt_q ht]
    have:=ih (row++[t.1]);simp only [List.length_cons,List.length_append,List.length_nil] at *; omega
theorem dbl_isZ (row:List Int):(dbl row).all isZ=row.all isZ:=by
 induction row with
 | nil=>rfl
 | cons r row ih=>
  rw [qDM,List.all_append,ih,List.all_cons]
  split
  · rename_i h; subst h; rfl
  · simp
theorem inQ_isZ (row:List Int):(inQ row).all isZ=row.all isZ:=by
 have h39:isZ 39=true:=rfl
 unfold inQ; split
 · exact dbl_isZ row
 · rw [List.all_cons,List.all_append,dbl_isZ,h39]; simp [h39]
theorem prt_isZ (ts:List Tok):∀ row,(prt ts row).all isZ=(row.all isZ && ts.all fun t=>isZ t.1):=by
 induction ts with
 | nil=>intro row; rw [qJ6,inQ_isZ]; simp
 | cons t ts ih=>
  intro row
  rcases ht:t.2.1 with _ | _
  · rw [prt_p ht,List.all_append,inQ_isZ,List.all_cons,ih,List.all_cons]; simp
  · rw [prt_q ht,ih,List.all_append,List.all_cons]; simp [Bool.and_assoc]
theorem may_isZ {ts:List Tok} (h:ts.all mayT=true):(ts.all fun t=>isZ t.1)=true:=by
 refine List.all_eq_true.2 fun t ht=>?_
 have:=List.all_eq_true.1 h t ht
 simp only [mayT,Bool.and_eq_true] at this
 exact this.1
theorem qK7 (r:Int) (l:List Int):nats (r :: l)=r.toNat :: nats l:=rfl
theorem qAU (xs ys:List Int):nats (xs++ys)=nats xs++nats ys:=by simp [nats]
theorem nats_nil:nats []=[]:=rfl
theorem isZ_39 {r:Int} (h:isZ r=true):r.toNat=39↔r=39:=by have:=qBC.1 h; omega
def sck (cs:List Nat) (b:Bool):List (Int × Bool) × Bool:=((scn cs 0 (if b then 0 else -1)).1.map er,decide (0≤(scn cs 0 (if b then 0 else -1)).2))
theorem qGB (cs:List Nat) (a:Nat) (o:Int):(scn cs a o).1.map er=(sck cs (decide (0≤o))).1∧decide (0≤(scn cs a o).2)=(sck cs (decide (0≤o))).2:=by
 have h:(0≤o↔0≤(if decide (0≤o)=true then (0:Int) else -1)):=by
  by_cases h:0≤o
  · rw [decide_eq_true h]; simp [h]
  · rw [decide_eq_false h]; simp only [Bool.false_eq_true,if_false]; omega
 obtain ⟨h1,h2⟩:=scn_same cs a 0 o _ h
 exact ⟨h1,decide_eq_decide.2 h2⟩
theorem qJ7 (b:Bool):sck [] b=([],b):=by cases b <;> rfl
theorem qJ8 (cs:List Nat) (b:Bool):sck (39 :: 39 :: cs) b=((39,true) :: (sck cs b).1,(sck cs b).2):=by
 obtain ⟨h1,h2⟩:=qGB cs (0+2) (if b then 0 else -1)
 have hb:decide (0≤(if b then (0:Int) else -1))=b:=by cases b <;> rfl
 rw [hb] at h1 h2
 rw [sck,qCF,List.map_cons,h1,h2]; rfl
theorem sck_one {cs:List Nat} (h:cs.head?≠some 39) (b:Bool):sck (39 :: cs) b=sck cs (!b):=by
 obtain ⟨h1,h2⟩:=qGB cs (0+1) (if (if b then (0:Int) else -1) < 0 then ((0:Nat):Int) else -1)
 have hb:decide (0≤(if (if b then (0:Int) else -1) < 0 then ((0:Nat):Int) else -1)) = !b:=by cases b <;> rfl
 rw [hb] at h1 h2
 rw [sck,qC1 h,h1,h2]
theorem qDN {c:Nat} (h:c≠39) (cs:List Nat) (b:Bool):sck (c :: cs) b=(((c:Int),b) :: (sck cs b).1,(sck cs b).2):=by
 obtain ⟨h1,h2⟩:=qGB cs (0+(encN c).length) (if b then 0 else -1)
 have hb:decide (0≤(if b then (0:Int) else -1))=b:=by cases b <;> rfl
 rw [hb] at h1 h2
 rw [sck,qB4 h,List.map_cons,h1,h2]
 simp only [er,hb]
theorem sck_within {row:List Int} (hz:row.all isZ=true) {rest:List Nat} (hr:rest.head?≠some 39) :
 sck (nats (dbl row)++39 :: rest) true=(row.map (fun r=>(r,true))++(sck rest false).1,(sck rest false).2):=by
 induction row with
 | nil=>rw [dbl_nil,nats_nil,List.nil_append,sck_one hr]; rfl
 | cons r row ih=>
  simp only [List.all_cons,Bool.and_eq_true] at hz;rw [qDM,qAU,List.append_assoc]
  split
  · rename_i e; subst e
    show sck (39 :: 39 :: (nats (dbl row)++39 :: rest)) true=_
    rw [qJ8,ih hz.2]; rfl
  · rename_i e
    show sck (r.toNat :: (nats (dbl row)++39 :: rest)) true=_
    rw [qDN (fun h=>e ((isZ_39 hz.1).1 h)),ih hz.2];have:=(qBC.1 hz.1).1;rw [Int.toNat_of_nonneg this]; rfl
theorem sck_row {row:List Int} (hz:row.all isZ=true) (hn:row.all (fun r=>decide (r=39))=false) {rest:List Nat} (hr:rest.head?≠some 39) :
 sck (39 :: (nats (dbl row)++39 :: rest)) false=(row.map (fun r=>(r,true))++(sck rest false).1,(sck rest false).2):=by
 induction row with
 | nil=>cases hn
 | cons r row ih=>
  simp only [List.all_cons,Bool.and_eq_true] at hz;rw [List.all_cons] at hn
  by_cases e:r=39
  · subst e
    rw [qDM,if_pos rfl,qAU,List.append_assoc]
    show sck (39 :: 39 :: 39 :: (nats (dbl row)++39 :: rest)) false=_
    rw [qJ8,ih hz.2 (by simpa using hn)]; rfl
  · rw [sck_one]
    · have h:=sck_within (row:=r :: row) (by simp [hz.1,hz.2]) hr
      exact h
    · rw [qDM,if_neg e]
      show (some r.toNat:Option Nat)≠some 39
      intro h;exact e ((isZ_39 hz.1).1 (Option.some.inj h))
theorem sck_all {row:List Int} (hn:row.all (fun r=>decide (r=39))=true) (rest:List Nat) :
 sck (nats (dbl row)++rest) false=(row.map (fun r=>(r,true))++(sck rest false).1,(sck rest false).2):=by
 induction row with
 | nil=>rfl
 | cons r row ih=>
  simp only [List.all_cons,Bool.and_eq_true,decide_eq_true_eq] at hn;obtain ⟨rfl,h2⟩:=hn;rw [qDM,if_pos rfl,qAU,List.append_assoc]
  show sck (39 :: 39 :: (nats (dbl row)++rest)) false=_
  rw [qJ8,ih h2]; rfl
theorem sck_inQ {row:List Int} (hz:row.all isZ=true) {rest:List Nat} (hr:rest.head?≠some 39) :
 sck (nats (inQ row)++rest) false=(row.map (fun r=>(r,true))++(sck rest false).1,(sck rest false).2):=by
 unfold inQ; split
 · rename_i h; exact sck_all h rest
 · rename_i h
   rw [qK7,qAU,List.cons_append,List.append_assoc];exact sck_row hz (by simpa using h) hr
def toks (l:List Nat):List Tok × Int × Int:=
 if rst l≠[] then ([],2,badZ l)
 else if 0≤(scn (cps l) 0 (-1)).2 then ([],3,(scn (cps l) 0 (-1)).2)
 else if 400 < (scn (cps l) 0 (-1)).1.length then ([],8,0)
 else ((scn (cps l) 0 (-1)).1,0,0)
theorem qFL {l:List Nat} (hl:∀ b ∈ l,b < 256):(toks l).1.all mayT=true∧(toks l).1.length≤400∧((toks l).2.1≠0→(toks l).1=[]):=by
 unfold toks
 split
 · exact ⟨rfl,by simp,fun _=>rfl⟩
 · split
   · exact ⟨rfl,by simp,fun _=>rfl⟩
   · split
     · exact ⟨rfl,by simp,fun _=>rfl⟩
     · exact ⟨scn_may _ _ _ (qE4 l hl).2.1,by dsimp only; omega,fun h=>absurd rfl h⟩
theorem qD9 {cs:List Nat} (h:allC cs=true) (ho:(scn cs 0 (-1)).2 < 0) (hn:(scn cs 0 (-1)).1.length≤400):toks (encs cs)=((scn cs 0 (-1)).1,0,0):=by
 rw [toks,cps_encs h,if_neg (by simp [rst_encs h]),if_neg (by omega),if_neg (by omega)]
def prtZ (ts:List Tok):ByteArray:=if ts.all mayT then stz (encs (nats (prt ts []))) else stz []
theorem qDO {ts:List Tok} (h:ts.all mayT=true):prtZ ts=stz (encs (nats (prt ts [])))∧bts (prtZ ts)=encs (nats (prt ts []))∧allC (nats (prt ts []))=true∧(prt ts []).all isZ=true:=by
 have hz:(prt ts []).all isZ=true:=by rw [prt_isZ]; simp only [List.all_nil,Bool.true_and]; exact may_isZ h
 have hc:=allC_nats hz
 have e:prtZ ts=stz (encs (nats (prt ts []))):=by rw [prtZ,if_pos h]
 exact ⟨e,by rw [e,qAM (qIZ hc)],hc,hz⟩
theorem qFA (l:List Int):(nats l).length=l.length:=by simp [nats]
theorem qFM (ts:List Tok):(prtZ ts).size≤16 * ts.length+8:=by
 unfold prtZ; split
 · rw [qAC]
   have h1:=qHI (nats (prt ts []));have h2:=prt_len ts [];rw [qFA] at h1;simp only [List.length_nil] at h2;omega
 · rw [qAC]; simp
open Go.RowKit
open Lib (hid)
def tokV (t:Tok):List Value:=[.int .i32 t.1,.bool t.2.1,.int .i64 t.2.2]
def qCG (ts:List Tok):List Value:=ts.flatMap tokV
theorem qEO (t:Tok) (ts:List Tok):qCG (t :: ts)=tokV t++qCG ts:=rfl
theorem qE6 (ts:List Tok):(qCG ts).length=ts.length * 3:=by
 induction ts with
 | nil=>rfl
 | cons t ts ih=>rw [qEO,List.length_append,ih]; simp only [tokV,List.length_cons,List.length_nil]; omega
theorem qC7 (ts us:List Tok):qCG (ts++us)=qCG ts++qCG us:=by simp [qCG]
theorem toksV_one (t:Tok):qCG [t]=tokV t:=by simp [qCG]
def tk (ts:List Tok) (k:Nat):Tok:=ts.getD k (0,false,0)
theorem qK8 {ts:List Tok} {k:Nat} (h:k < ts.length):tk ts k=ts[k]:=by simp [tk,List.getD,List.getElem?_eq_getElem h]
theorem qHO (ts:List Tok):∀ (k j:Nat),k < ts.length→j < 3→(qCG ts)[k * 3+j]? = (tokV (tk ts k))[j]?:=by
 induction ts with
 | nil=>intro k j h _; simp at h
 | cons t ts ih=>
  intro k j h hj
  cases k with
  | zero=>
   rw [qEO,List.getElem?_append_left (by show _ < 3; omega)];simp [tk]
  | succ k=>
   rw [qEO,List.getElem?_append_right (by show 3≤_; omega)];rw [show (k+1) * 3+j - (tokV t).length=k * 3+j by show _ - 3=_; omega,ih k j (by simpa using h) hj];simp [tk]
def R32 (t:Tok):Prop:=-2147483648≤t.1∧t.1≤2147483647
theorem r32_may {t:Tok} (h:mayT t=true):R32 t:=by
 simp only [mayT,Bool.and_eq_true] at h
 have:=qBC.1 h.1
 exact ⟨by omega,by omega⟩
def Tks (w:World) (A:Option Addr) (n:Nat) (ts:List Tok):Prop:=qB6 w w.heap.size 3 A n (qCG ts)∧n≤36000000000000∧∀ t ∈ ts,R32 t
section
variable {w w':World} {n:Nat} {A:Option Addr} {ts:List Tok}
theorem Tks.len (h:Tks w A n ts):ts.length=n:=by have:=h.1.1; rw [qE6] at this; omega
theorem Tks.below (h:Tks w A n ts) (hb:Below w.heap.size w w'):Tks w' A n ts:=⟨(h.1.below hb).more hb.size,h.2⟩
theorem Tks.at_ {k:Nat} (h:Tks w A n ts) (hk:k < n):∃ ad,A=some ad∧ad.block < w.heap.size∧w.cell? (ad.add (k * 3))=some (.int .i32 (tk ts k).1)∧w.cell? ⟨(ad.add (k * 3)).block,(ad.add (k * 3)).off+1,none⟩=some (.bool (tk ts k).2.1) ∧
 w.cell? ⟨(ad.add (k * 3)).block,(ad.add (k * 3)).off+2,none⟩=some (.int .i64 (tk ts k).2.2)∧R32 (tk ts k):=by
 obtain ⟨ad,e,hb,hc⟩:=h.1.2 (by omega)
 have hl:k < ts.length:=by rw [h.len]; exact hk
 have f1:=hc (k * 3+1) (.bool (tk ts k).2.1) (by rw [qHO ts k 1 hl (by omega)]; rfl)
 have f2:=hc (k * 3+2) (.int .i64 (tk ts k).2.2) (by rw [qHO ts k 2 hl (by omega)]; rfl)
 rw [← qBY] at f1 f2
 refine ⟨ad,e,hb,hc (k * 3) _ ?_,f1,f2,?_⟩
 · have:=qHO ts k 0 hl (by omega); rw [Nat.add_zero] at this; rw [this]; rfl
 · rw [qK8 hl]; exact h.2.2 _ (List.getElem_mem hl)
end
theorem tok_info:(Tryz.prog.info? 61).map (fun i=>(i.zero,i.size,i.bytes))=some (some (.agg #[.int .i32 0,.bool false,.int .i64 0]),3,16):=by kernel_rfl
theorem piece_info:(Tryz.prog.info? 106).map (fun i=>(i.zero,i.size,i.bytes))=some (some .nilIface,1,16):=by kernel_rfl
def OwnT (w:World) (base:Nat) (A:Option Addr) (m c:Nat) (ts:List Tok):Prop:=
 w.ownsRow base 61 3 (.slice A m c) m (qCG ts)∧m≤10000000000∧∀ t ∈ ts,R32 t
section
variable {w w':World} {base m c:Nat} {A:Option Addr} {ts:List Tok}
theorem OwnT.len (h:OwnT w base A m c ts):ts.length=m:=by have:=h.1.1; rw [qE6] at this; omega
theorem OwnT.tks (h:OwnT w base A m c ts):Tks w A m ts:=⟨qB6.of_own h.1,Nat.le_trans h.2.1 (by omega),h.2.2⟩
theorem OwnT.keep {B:Nat} (h:OwnT w base A m c ts) (hb:Below B w w') (hB:B=w.heap.size):OwnT w' base A m c ts:=by
 subst hB
 refine ⟨h.1.kept (row:=none) ⟨hb.os,hb.tape,hb.output,hb.size,fun k hk _=>hb.block k hk⟩ ?_,h.2⟩
 cases hv:(Value.slice A m c).ownBlock <;> simp
end
theorem qDP (w:World) (base:Nat):OwnT w base none 0 0 []:=⟨World.ownsRow_nil _ _ _ _,by omega,by simp⟩
theorem qCH {w w':World} {base B:Nat} {e:TypeId} {size n:Nat} {v:Value} {xs:List Value} (h:w.ownsRow base e size v n xs) (hb:Below B w w') (hB:B=w.heap.size):w'.ownsRow base e size v n xs:=by
 subst hB
 refine h.kept (row:=none) ⟨hb.os,hb.tape,hb.output,hb.size,fun k hk _=>hb.block k hk⟩ ?_
 cases v.ownBlock <;> simp
def pcV (t:Tok):Value:=.iface (if t.2.1=true then 141 else 138) (.agg #[.int .i32 t.1,.int .i64 t.2.2])
theorem qDA (W:World) (xs:List Value) (e:TypeId):∀ j u,xs[j]? = some u→(W.alloc (.cells xs.toArray e)).cell? ((⟨W.heap.size,0,none⟩:Addr).add j)=some u:=
 (World.ownsRow_lit (base:=0) (e:=e) (size:=xs.length) W xs.toArray 1 (Nat.zero_le _) (by unfold maxLen; omega) (by simp)).cells rfl
theorem qAE {W w0:World} {ops:Array Oper} {rest:List Oper} {o:Oper} {a:Act} {Q:Exit→Act→World→Prop} (hgd:o.guard=none) (s x:Operand) (t:TypeId)
 (ho:o.op=.call { callee:=.builtin .append,args:=#[s,x],argTypes:=#[t,t] }) (ht:Tryz.prog.underlying t=some (.slice 61))
 (base:Nat) (v:Value) (k:Nat) (ts:List Tok) (hs:a.eval s=v) (hown:W.ownsRow base 61 3 v k (qCG ts)) (u:Tok)
 (hx:a.eval x=.slice (some ⟨W.heap.size,0,none⟩) 1 1) (r:Int) (q:Bool) (p:Int) (hu:u=(r,q,p)) (hk:k≤1000000000000) (hb:Below base w0 W) (hbase:base≤W.heap.size)
 (h:∀ v' w',Hid (w'.ownsRow base 61 3 v' (k+1) (qCG (ts++[u])))→Hid (Below base w0 w')→Hid (∀ k,k < W.heap.size→v.ownBlock≠some k→w'.heap[k]? = W.heap[k]?)→wpList Tryz.prog ops Q rest (a.put o.dst v') w') :
 wpList Tryz.prog ops Q (o :: rest) a (W.alloc (.cells #[.int .i32 r,.bool q,.int .i64 p] 61)):=by
 obtain ⟨i0,hi,hz0,hz1,hz2⟩:=info_parts tok_info
 subst hu
 refine wpList_append_own _ hgd s x t ho base 61 i0 _ 3 16 ht hi hz0 hz1 hz2 rfl (by decide) v k _ hs (hown.alloc _) ⟨W.heap.size,0,none⟩ 1 1 [.int .i32 r,.bool q,.int .i64 p] hx rfl (qDA W _ _) ?_ ?_ ?_ ?_ ?_
 · intro v hv
   simp only [List.mem_cons,List.not_mem_nil,or_false] at hv
   rcases hv with rfl | rfl | rfl <;> rfl
 · unfold maxLen; omega
 · omega
 · simp; omega
 · intro v' w' h1 h2 _
   refine h v' w' ?_ ?_ ?_
   · rw [qC7,toksV_one]; exact h1
   · refine (hb.alloc hbase _).grown h2 (by simp; omega) fun j hj=>?_
     exact (hown.lt j hj).1
   · intro k hk hne
     rw [h2.block k (by simp; omega) (fun e=>hne e.symm)]
     show (W.heap.push _)[k]? = _
     rw [Array.getElem?_push_lt hk,Array.getElem?_eq_getElem hk]
theorem qGR {W w0:World} {ops:Array Oper} {rest:List Oper} {o:Oper} {a:Act} {Q:Exit→Act→World→Prop} (hgd:o.guard=none) (s x:Operand) (t:TypeId)
 (ho:o.op=.call { callee:=.builtin .append,args:=#[s,x],argTypes:=#[t,t] }) (ht:Tryz.prog.underlying t=some (.slice 106))
 (base:Nat) (v:Value) (k:Nat) (ts:List Tok) (hs:a.eval s=v) (hown:W.ownsRow base 106 1 v k (ts.map pcV)) (u:Tok)
 (hx:a.eval x=.slice (some ⟨W.heap.size,0,none⟩) 1 1) (T:TypeId) (y:Value) (hu:pcV u=.iface T y) (hk:k≤1000000000000) (hb:Below base w0 W) (hbase:base≤W.heap.size)
 (h:∀ v' w',Hid (w'.ownsRow base 106 1 v' (k+1) ((ts++[u]).map pcV))→Hid (Below base w0 w')→Hid (∀ k,k < W.heap.size→v.ownBlock≠some k→w'.heap[k]? = W.heap[k]?)→wpList Tryz.prog ops Q rest (a.put o.dst v') w') :
 wpList Tryz.prog ops Q (o :: rest) a (W.alloc (.cells #[.iface T y] 106)):=by
 obtain ⟨i0,hi,hz0,hz1,hz2⟩:=info_parts piece_info
 refine wpList_append_own _ hgd s x t ho base 106 i0 .nilIface 1 16 ht hi hz0 hz1 hz2 rfl (by decide) v k _ hs (hown.alloc _) ⟨W.heap.size,0,none⟩ 1 1 [.iface T y] hx rfl (qDA W _ _) ?_ ?_ ?_ ?_ ?_
 · intro v hv
   simp only [List.mem_cons,List.not_mem_nil,or_false] at hv;subst hv; rfl
 · unfold maxLen; omega
 · omega
 · simp; omega
 · intro v' w' h1 h2 _
   refine h v' w' ?_ ?_ ?_
   · rw [List.map_append,List.map_cons,List.map_nil,hu]; exact h1
   · refine (hb.alloc hbase _).grown h2 (by simp; omega) fun j hj=>?_
     exact (hown.lt j hj).1
   · intro k hk hne
     rw [h2.block k (by simp; omega) (fun e=>hne e.symm)]
     show (W.heap.push _)[k]? = _
     rw [Array.getElem?_push_lt hk,Array.getElem?_eq_getElem hk]
def tokG (t:Tok):Value:=.agg #[.int .i32 t.1,.bool t.2.1,.int .i64 t.2.2]
theorem isQ_yes (W:World) (v:Value):(Instr.typeAssert (.iface 141 v) 106 141 true).run Tryz.prog W=.ok (.tuple #[v,.bool true]) W:=by kernel_rfl
theorem isQ_no (W:World) (v:Value):(Instr.typeAssert (.iface 138 v) 106 141 true).run Tryz.prog W=.ok (.tuple #[.agg #[.int .i32 0,.int .i64 0],.bool false]) W:=by kernel_rfl
theorem qIJ (h:138 < Tryz.prog.types.size) (x y:Value):List.take (Tryz.prog.types[138]'h).size [x,y]=[x,y]:=by kernel_rfl
attribute [local go_sem] qIJ
theorem tell_p (r a:Int) (w:World):Calls Tryz.prog 51 #[.iface 138 (.agg #[.int .i32 r,.int .i64 a])] w fun e w'=>e=.returned (tokG (r,false,a))∧Below w.heap.size w w':=by
 have h1:=isQ_no
 go_enter Tryz.func51,Tryz.ntmps51
 go_wp2
 exact bodyPost_ret (v:=tokG (r,false,a)) (by simp [results,Tryz.results51,go_sem,tokG]) rfl ⟨rfl,by go_grown⟩
theorem tell_q (r a:Int) (w:World):Calls Tryz.prog 51 #[.iface 141 (.agg #[.int .i32 r,.int .i64 a])] w fun e w'=>e=.returned (tokG (r,true,a))∧Below w.heap.size w w':=by
 have h1:=isQ_yes
 go_enter Tryz.func51,Tryz.ntmps51
 go_wp2
 exact bodyPost_ret (v:=tokG (r,true,a)) (by simp [results,Tryz.results51,go_sem,tokG]) rfl ⟨rfl,by go_grown⟩
theorem tell_c (t:Tok) (w:World):Calls Tryz.prog 51 #[pcV t] w fun e w'=>e=.returned (.agg #[.int .i32 t.1,.bool t.2.1,.int .i64 t.2.2])∧Below w.heap.size w w':=by
 obtain ⟨r,q,a⟩:=t
 cases q
 · exact tell_p r a w
 · exact tell_q r a w
theorem keep_c (W w0:World) (base:Nat) (v:Value) (m:Nat) (L:List Tok) (t:Tok) (T:TypeId) (y:Value) (ht:pcV t=.iface T y) (h:W.ownsRow base 106 1 v m ((L.take 401).map pcV)) (hbase:base≤W.heap.size) (hb:Below base w0 W) :
 Calls Tryz.prog 68 #[v,.iface T y] W fun e w'=>∃ v' m',e=.returned v'∧Hid (w'.ownsRow base 106 1 v' m' (((L++[t]).take 401).map pcV))∧Hid (Below base w0 w')∧Hid (∀ k,k < W.heap.size→v.ownBlock≠some k→w'.heap[k]? = W.heap[k]?):=by
 have hl:(L.take 401).length=m:=by have:=h.1; simpa using this
 obtain ⟨A,c,hA⟩:=qAL h
 rw [List.length_take] at hl
 by_cases hm:m≤400
 · have hL:L.take 401=L:=List.take_of_length_le (by omega)
   have hL':(L++[t]).take 401=L++[t]:=List.take_of_length_le (by rw [List.length_append]; simp; omega);rw [hL'];rw [hL] at h;have H:=hid h;have HB:=hid hb;have HT:=hid ht;subst hA;clear h hb hL hL' hl ht
   go_enter Tryz.func68,Tryz.ntmps68
   go_wp2_with (at_builtin; go_must (refine qGR rfl (.tmp 9) (.tmp 11) _ rfl Tryz.underlying102 base (.slice A m c) m L rfl H.out t rfl _ _ HT.out (by omega) HB.out hbase ?_))
   intro v' w' h1 h2 h3
   go_wp2
   go_ret
   have h4:=hid (show w'.ownsRow base 106 1 v' (m+1) ((L++[t]).map pcV) by rw [List.map_append]; exact h1.out);exact ⟨v',m+1,rfl,h4,h2,h3⟩
 · have hL':(L++[t]).take 401=L.take 401:=by
    rw [List.take_append_of_le_length (by omega)]
   rw [hL'];have H:=hid h;have HB:=hid hb;have hgt:decide ((400:Int) < (m:Int))=true:=decide_eq_true (by omega);subst hA;clear h hb hL' hl ht
   go_enter Tryz.func68,Tryz.ntmps68
   go_wp2
   go_ret
   exact ⟨_,_,rfl,H,HB,hid fun _ _ _=>rfl⟩
theorem qIC (zs:List Int) {k:Nat} (h:k < zs.length):zs.take (k+1)=zs.take k++[zs.getD k 0]:=by
 rw [List.take_succ_eq_append_getElem h,List.getD,List.getElem?_eq_getElem h]; rfl
def Rem (s:ByteArray) (p:Nat) (cs:List Nat):Prop:=p≤s.size∧(bts s).drop p=encs cs∧allC cs=true
theorem Rem.zero {s:ByteArray} (h:rst (bts s)=[]):Rem s 0 (cps (bts s)):=⟨Nat.zero_le _,qG7 (qAP s) h,(qE4 _ (qAP s)).2.1⟩
theorem Rem.len {s:ByteArray} {p:Nat} {cs:List Nat} (h:Rem s p cs):p+(encs cs).length=s.size:=by
 have:=congrArg List.length h.2.1
 rw [List.length_drop,qA1] at this
 have:=h.1
 omega
theorem Rem.none {s:ByteArray} {p:Nat} (h:Rem s p []):¬ p < s.size:=by
 have:=h.len
 rw [encs_nil] at this
 simp at this; omega
theorem Rem.some {s:ByteArray} {p:Nat} {c:Nat} {cs:List Nat} (h:Rem s p (c :: cs)) :
 isC c=true∧Rem s (p+(encN c).length) cs∧Utf8.decode s p=(c,(encN c).length)∧p < s.size∧1≤(encN c).length:=by
 obtain ⟨h1,h2⟩:=qB7.1 h.2.2
 have hl:=h.len
 have hp:=qC4 c
 rw [qAB,List.length_append] at hl
 refine ⟨h1,⟨by omega,?_,h2⟩,?_,by omega,hp⟩
 · rw [← List.drop_drop,h.2.1,qAB,List.drop_append_of_le_length (Nat.le_refl _),List.drop_length,List.nil_append]
 · rw [qCE,h.2.1,qAB,dec_enc h1]
theorem encs_39 {cs:List Nat} {l:List Nat} (h:encs cs=39 :: l):∃ cs',cs=39 :: cs'∧encs cs'=l:=by
 cases cs with
 | nil=>cases h
 | cons c cs=>
  rw [qAB] at h
  rcases qB3 c with ⟨_,e⟩ | ⟨_,_,e⟩ | ⟨_,_,e⟩ | ⟨_,e⟩ <;> rw [e] at h <;> simp only [List.cons_append,List.nil_append,List.cons.injEq] at h
  · obtain ⟨rfl,h⟩:=h; exact ⟨cs,rfl,h⟩
  all_goals (exfalso; omega)
def twoS:ByteArray:=⟨#[39,39]⟩
theorem bts_two:bts twoS=[39,39]:=rfl
theorem Rem.two {s:ByteArray} {p:Nat} {cs:List Nat} (h:Rem s p cs):pfx twoS (s.extract p s.size)=true↔∃ cs',cs=39 :: 39 :: cs':=by
 rw [pfx_iff,qC5,h.2.1,bts_two]
 constructor
 · rintro ⟨r,hr⟩
   obtain ⟨c1,rfl,h1⟩:=encs_39 hr;obtain ⟨c2,rfl,_⟩:=encs_39 h1;exact ⟨c2,rfl⟩
 · rintro ⟨cs',rfl⟩
   exact ⟨encs cs',by rw [qAB,qAB]; rfl⟩
def St (F:List Tok × Int) (L:List Tok) (p nx:Nat) (cs:List Nat) (o:Int):Prop:=
 (nx≤p∧F=(L++(scn cs p o).1,(scn cs p o).2))∨(nx=p+1∧∃ cs',cs=39 :: cs'∧F=(L++(scn cs' (p+1) o).1,(scn cs' (p+1) o).2))
section
variable {F:List Tok × Int} {L:List Tok} {p nx:Nat} {cs:List Nat} {o:Int}
theorem St.zero (cs:List Nat):St (scn cs 0 (-1)) [] 0 0 cs (-1):=.inl ⟨Nat.le_refl _,by rw [List.nil_append]⟩
theorem St.end_ (h:St F L p nx [] o):F=(L,o):=by
 rcases h with ⟨_,h⟩ | ⟨_,cs',h,_⟩
 · rw [h,qF9,List.append_nil]
 · cases h
theorem St.skip {c:Nat} (h:St F L p nx (c :: cs) o) (hp:p < nx):c=39∧St F L (p+1) nx cs o:=by
 rcases h with ⟨h,_⟩ | ⟨h1,cs',h,h2⟩
 · omega
 · cases h
   exact ⟨rfl,.inl ⟨by omega,h2⟩⟩
theorem St.pair (h:St F L p nx (39 :: 39 :: cs) o) (hp:nx≤p):St F (L++[(39,true,(p:Int))]) (p+1) (p+2) (39 :: cs) o:=by
 rcases h with ⟨_,h⟩ | ⟨h,_⟩
 · refine .inr ⟨rfl,cs,rfl,?_⟩
   rw [h,qCF,List.append_assoc]; rfl
 · omega
theorem St.opens (h:St F L p nx (39 :: cs) o) (hp:nx≤p) (hc:cs.head?≠some 39) (ho:o < 0):St F L (p+1) nx cs (p:Int):=by
 rcases h with ⟨_,h⟩ | ⟨h,_⟩
 · refine .inl ⟨by omega,?_⟩
   rw [h,qC1 hc,if_pos ho]
 · omega
theorem St.close (h:St F L p nx (39 :: cs) o) (hp:nx≤p) (hc:cs.head?≠some 39) (ho:¬ o < 0):St F L (p+1) nx cs (-1):=by
 rcases h with ⟨_,h⟩ | ⟨h,_⟩
 · refine .inl ⟨by omega,?_⟩
   rw [h,qC1 hc,if_neg ho]
 · omega
theorem St.other {c:Nat} (h:St F L p nx (c :: cs) o) (hp:nx≤p) (hc:c≠39):St F (L++[((c:Int),decide (0≤o),(p:Int))]) (p+(encN c).length) nx cs o:=by
 rcases h with ⟨_,h⟩ | ⟨h,_⟩
 · refine .inl ⟨by omega,?_⟩
   rw [h,qB4 hc,List.append_assoc]; rfl
 · omega
end
theorem not_pair {cs:List Nat} (h:¬ ∃ cs',39 :: cs=39 :: 39 :: cs'):cs.head?≠some 39:=by
 intro e
 cases cs with
 | nil=>cases e
 | cons c cs=>cases e; exact h ⟨cs,rfl⟩
set_option maxHeartbeats 2000000 in
theorem split_c (s:ByteArray) (w:World) (hs:s.size≤10000000000) (hr:rst (bts s)=[]):Calls Tryz.prog 50 #[.string s] w fun e w'=>
 ∃ A m c,e=.returned (.tuple #[.slice A m c,.int .i64 (scn (cps (bts s)) 0 (-1)).2])∧Hid (w'.ownsRow w.heap.size 106 1 (.slice A m c) m (((scn (cps (bts s)) 0 (-1)).1.take 401).map pcV))∧Hid (Below w.heap.size w w'):=by
 have R0:=hid (Rem.zero hr)
 have S0:=hid (St.zero (cps (bts s)))
 generalize scn (cps (bts s)) 0 (-1)=F at *
 generalize cps (bts s)=cs0 at *
 clear hr
 generalize hg:w.heap.size=g at *
 have Hg:=hid hg
 clear hg
 have B0:=hid (show Below g w w by rw [← Hg.out]; exact Below.refl _ _)
 go_enter Tryz.func50,Tryz.ntmps50
 go_wp2
 rw [Hg.out]
 go_loopw [2,3,4] (fun v ov nv wr=>∃ (p nx:Nat) (cs:List Nat) (L:List Tok) (o:Int) (m:Nat),Rem s p cs∧St F L p nx cs o∧ov=.int .i64 o∧nv=.int .i64 (nx:Int)∧wr.heap[g]? = some (.stringIter s p) ∧
  wr.ownsRow g 106 1 v m ((L.take 401).map pcV)∧Below g w wr) (fun _ _ _ wr=>s.size - wr.iterPos g)
 case atStart=>
  refine ⟨0,0,cs0,[],-1,0,R0.out,S0.out,rfl,rfl,?_,World.ownsRow_nil _ _ _ _,B0.out.alloc (by rw [Hg.out]; exact Nat.le_refl _) _⟩;rw [← Hg.out]; exact heap_alloc_new w _
 case round=>
  obtain ⟨p,nx,cs,L,o,m,hr0,hs0,rfl,rfl,hit0,ho0,hb0⟩:=hrel;have HR:=hid hr0;have HS:=hid hs0;have HIT:=hid hit0;have HO:=hid ho0;have HB:=hid hb0;have hple:=hr0.1;have hpos0:wr.iterPos g=p:=by simp [World.iterPos,hit0]
  have HPOS:=hid hpos0;have hgq:g < wr.heap.size:=(Array.getElem?_eq_some_iff.1 hit0).1;clear hr0 hs0 hit0 ho0 hb0 hpos0
  cases cs with
  | nil=>
   have hlt:=HR.out.none;have hnx:=Lib.run_next_end_at (P:=Tryz.prog) wr g s p 0 HIT.out hlt
   go_wp2
   go_ret2
   obtain ⟨A,c,hA⟩:=qAL HO.out;subst hA;rw [HS.out.end_];exact ⟨A,m,c,rfl,HO,HB⟩
  | cons c cs=>
   obtain ⟨hc,hr1,hd,hlt,hl1⟩:=HR.out.some;have hnx:=Lib.run_next_any_at (P:=Tryz.prog) wr g s p 0 HIT.out hlt;rw [hd] at hnx;have HR1:=hid hr1;have HBQ:=hid (Lib.below_iterAt HB.out (Nat.le_refl g) s (p+(encN c).length));have HITQ:=hid (Lib.iterAt_heap wr g s p (p+(encN c).length) HIT.out);have HOQ:=hid (own_iterAt HO.out HIT.out (p+(encN c).length));have hqs:g < (wr.iterAt g s (p+(encN c).length)).heap.size:=by rw [Lib.iterAt_size]; omega
   have hcle:=qFK hc;clear hr1 hd
   by_cases hsk:p < nx
   · obtain ⟨h39,hs1⟩:=HS.out.skip hsk
     have HS1:=hid hs1;subst h39;have hL:(encN 39).length=1:=rfl;rw [hL] at hnx HR1 HBQ HITQ HOQ hqs;clear hs1 hL;generalize hW:wr.iterAt g s (p+1)=W at *;have HW:=hid hW;clear hW
     go_wp2
     go_roundw
     case rel=>
      refine ⟨p+1,nx,cs,L,o,m,HR1.out,HS1.out,rfl,rfl,?_,HOQ.out.alloc _,HBQ.out.alloc (Nat.le_of_lt hqs) _⟩;rw [heap_alloc_old W _ hqs]; exact HITQ.out
     case measure=>
      have e1:(W.alloc (.cells #[.int .i32 39,.int .i64 (p:Int)] 138)).iterPos g=p+1:=by simp only [World.iterPos]; rw [heap_alloc_old W _ hqs,HITQ.out]
      rw [HPOS.out,e1]; omega
   · have hnp:nx≤p:=Nat.le_of_not_lt hsk
     have hez:(s.extract p s.size).size≤1000000000000000:=by rw [ByteArray.size_extract]; omega
     by_cases hpair:∃ cs',c :: cs=39 :: 39 :: cs'
     · have hpf:pfx ⟨#[39,39]⟩ (s.extract p s.size)=true:=HR.out.two.2 hpair
       obtain ⟨cs',hcs⟩:=hpair
       cases hcs
       have HS1:=hid (HS.out.pair hnp);have hL:(encN 39).length=1:=rfl;rw [hL] at hnx HR1 HBQ HITQ HOQ hqs;clear hL;generalize hW:wr.iterAt g s (p+1)=W at *;have HW:=hid hW;clear hW;have HOA:=hid (HOQ.out.alloc (.cells #[.int .i32 39,.int .i64 (p:Int)] 138));have HBA:=hid (HBQ.out.alloc (Nat.le_of_lt hqs) (.cells #[.int .i32 39,.int .i64 (p:Int)] 138));have HITA:=hid (show (W.alloc (.cells #[.int .i32 39,.int .i64 (p:Int)] 138)).heap[g]? = some (.stringIter s (p+1)) by rw [heap_alloc_old W _ hqs]; exact HITQ.out);have hqa:g < (W.alloc (.cells #[.int .i32 39,.int .i64 (p:Int)] 138)).heap.size:=by simp; omega
       go_wp2_with fail
       refine (qBH (s.extract p s.size) ⟨#[39,39]⟩ _ hez (by decide)).mono ?_;rintro e w1 ⟨rfl,rfl⟩;rw [hpf]
       go_wp2_with fail
       refine (keep_c _ w g u2 m L (39,true,(p:Int)) 141 _ rfl HOA.out (Nat.le_of_lt hqa) HBA.out).mono ?_;rintro e w2 ⟨v2,m2,rfl,h1,h2,h3⟩;have HIT2:=hid ((h3.out g hqa (qDL HOA.out HITA.out)).trans HITA.out);clear h3
       go_wp2
       go_roundw
       case rel=>exact ⟨p+1,(p+2),(39 :: cs'),L++[(39,true,(p:Int))],o,m2,HR1.out,HS1.out,rfl,by go_num,HIT2.out,h1.out,h2.out⟩
       case measure=>
        have e1:w2.iterPos g=p+1:=by simp only [World.iterPos]; rw [HIT2.out]
        rw [HPOS.out,e1]; omega
     · have hpf:pfx ⟨#[39,39]⟩ (s.extract p s.size)=false:=by
        rw [Bool.eq_false_iff]; exact fun h=>hpair (HR.out.two.1 h)
       by_cases hc39:c=39
       · subst hc39
         have hh:=not_pair hpair
         by_cases hneg:o < 0
         · have hdo:decide (o < 0)=true:=decide_eq_true hneg
           have HS1:=hid (HS.out.opens hnp hh hneg);have hL:(encN 39).length=1:=rfl;rw [hL] at hnx HR1 HBQ HITQ HOQ hqs;clear hL;generalize hW:wr.iterAt g s (p+1)=W at *;have HW:=hid hW;clear hW;have HOA:=hid (HOQ.out.alloc (.cells #[.int .i32 39,.int .i64 (p:Int)] 138));have HBA:=hid (HBQ.out.alloc (Nat.le_of_lt hqs) (.cells #[.int .i32 39,.int .i64 (p:Int)] 138));have HITA:=hid (show (W.alloc (.cells #[.int .i32 39,.int .i64 (p:Int)] 138)).heap[g]? = some (.stringIter s (p+1)) by rw [heap_alloc_old W _ hqs]; exact HITQ.out);have hqa:g < (W.alloc (.cells #[.int .i32 39,.int .i64 (p:Int)] 138)).heap.size:=by simp; omega
           go_wp2_with fail
           refine (qBH (s.extract p s.size) ⟨#[39,39]⟩ _ hez (by decide)).mono ?_;rintro e w1 ⟨rfl,rfl⟩;rw [hpf]
           go_wp2
           go_roundw
           case rel=>exact ⟨p+1,nx,cs,L,(p:Int),m,HR1.out,HS1.out,rfl,rfl,HITA.out,HOA.out,HBA.out⟩
           case measure=>
            have e1:(W.alloc (.cells #[.int .i32 39,.int .i64 (p:Int)] 138)).iterPos g=p+1:=by simp only [World.iterPos]; rw [HITA.out]
            rw [HPOS.out,e1]; omega
         · have hdo:decide (o < 0)=false:=decide_eq_false hneg
           have HS1:=hid (HS.out.close hnp hh hneg);have hL:(encN 39).length=1:=rfl;rw [hL] at hnx HR1 HBQ HITQ HOQ hqs;clear hL;generalize hW:wr.iterAt g s (p+1)=W at *;have HW:=hid hW;clear hW;have HOA:=hid (HOQ.out.alloc (.cells #[.int .i32 39,.int .i64 (p:Int)] 138));have HBA:=hid (HBQ.out.alloc (Nat.le_of_lt hqs) (.cells #[.int .i32 39,.int .i64 (p:Int)] 138));have HITA:=hid (show (W.alloc (.cells #[.int .i32 39,.int .i64 (p:Int)] 138)).heap[g]? = some (.stringIter s (p+1)) by rw [heap_alloc_old W _ hqs]; exact HITQ.out);have hqa:g < (W.alloc (.cells #[.int .i32 39,.int .i64 (p:Int)] 138)).heap.size:=by simp; omega
           go_wp2_with fail
           refine (qBH (s.extract p s.size) ⟨#[39,39]⟩ _ hez (by decide)).mono ?_;rintro e w1 ⟨rfl,rfl⟩;rw [hpf]
           go_wp2
           go_roundw
           case rel=>exact ⟨p+1,nx,cs,L,(-1),m,HR1.out,HS1.out,rfl,rfl,HITA.out,HOA.out,HBA.out⟩
           case measure=>
            have e1:(W.alloc (.cells #[.int .i32 39,.int .i64 (p:Int)] 138)).iterPos g=p+1:=by simp only [World.iterPos]; rw [HITA.out]
            rw [HPOS.out,e1]; omega
       · have hb39:((c:Int) == 39)=false:=by simp; omega
         have HS1:=hid (HS.out.other hnp hc39);generalize hLc:(encN c).length=LC at *;generalize hW:wr.iterAt g s (p+LC)=W at *;have HW:=hid hW;clear hW
         by_cases hq:0≤o
         · have hdo:decide (0≤o)=true:=decide_eq_true hq
           rw [hdo] at HS1;have HOA:=hid (HOQ.out.alloc (.cells #[.int .i32 (c:Int),.int .i64 (p:Int)] 138));have HBA:=hid (HBQ.out.alloc (Nat.le_of_lt hqs) (.cells #[.int .i32 (c:Int),.int .i64 (p:Int)] 138));have HITA:=hid (show (W.alloc (.cells #[.int .i32 (c:Int),.int .i64 (p:Int)] 138)).heap[g]? = some (.stringIter s (p+LC)) by rw [heap_alloc_old W _ hqs]; exact HITQ.out);have hqa:g < (W.alloc (.cells #[.int .i32 (c:Int),.int .i64 (p:Int)] 138)).heap.size:=by simp; omega
           go_wp2_with fail
           refine (qBH (s.extract p s.size) ⟨#[39,39]⟩ _ hez (by decide)).mono ?_;rintro e w1 ⟨rfl,rfl⟩;rw [hpf]
           go_wp2_with fail
           refine (keep_c _ w g u2 m L ((c:Int),true,(p:Int)) 141 _ rfl HOA.out (Nat.le_of_lt hqa) HBA.out).mono ?_;rintro e w2 ⟨v2,m2,rfl,h1,h2,h3⟩;have HIT2:=hid ((h3.out g hqa (qDL HOA.out HITA.out)).trans HITA.out);clear h3
           go_wp2
           go_roundw
           case rel=>exact ⟨p+LC,nx,cs,L++[((c:Int),true,(p:Int))],o,m2,HR1.out,HS1.out,rfl,rfl,HIT2.out,h1.out,h2.out⟩
           case measure=>
            have e1:w2.iterPos g=p+LC:=by simp only [World.iterPos]; rw [HIT2.out]
            rw [HPOS.out,e1]; omega
         · have hdo:decide (0≤o)=false:=decide_eq_false hq
           rw [hdo] at HS1;have HOA:=hid (HOQ.out.alloc (.cells #[.int .i32 (c:Int),.int .i64 (p:Int)] 138));have HBA:=hid (HBQ.out.alloc (Nat.le_of_lt hqs) (.cells #[.int .i32 (c:Int),.int .i64 (p:Int)] 138));have HITA:=hid (show (W.alloc (.cells #[.int .i32 (c:Int),.int .i64 (p:Int)] 138)).heap[g]? = some (.stringIter s (p+LC)) by rw [heap_alloc_old W _ hqs]; exact HITQ.out);have hqa:g < (W.alloc (.cells #[.int .i32 (c:Int),.int .i64 (p:Int)] 138)).heap.size:=by simp; omega
           go_wp2_with fail
           refine (qBH (s.extract p s.size) ⟨#[39,39]⟩ _ hez (by decide)).mono ?_;rintro e w1 ⟨rfl,rfl⟩;rw [hpf]
           go_wp2_with fail
           refine (keep_c _ w g u2 m L ((c:Int),false,(p:Int)) 138 _ rfl HOA.out (Nat.le_of_lt hqa) HBA.out).mono ?_;rintro e w2 ⟨v2,m2,rfl,h1,h2,h3⟩;have HIT2:=hid ((h3.out g hqa (qDL HOA.out HITA.out)).trans HITA.out);clear h3
           go_wp2
           go_roundw
           case rel=>exact ⟨p+LC,nx,cs,L++[((c:Int),false,(p:Int))],o,m2,HR1.out,HS1.out,rfl,rfl,HIT2.out,h1.out,h2.out⟩
           case measure=>
            have e1:w2.iterPos g=p+LC:=by simp only [World.iterPos]; rw [HIT2.out]
            rw [HPOS.out,e1]; omega
def FB (w:World) (g:Nat) (x y:Value):Prop:=w.heap[g]? = some (.cells #[x,y] 28 (0,0))
section
variable {w w':World} {g:Nat} {x y:Value}
theorem FB.c0 (h:FB w g x y):w.cell? ⟨g,0,none⟩=some x:=by rw [cell_of_row w g 0 _ _ _ h]; rfl
theorem FB.c1 (h:FB w g x y):w.cell? ⟨g,1,none⟩=some y:=by rw [cell_of_row w g 1 _ _ _ h]; rfl
theorem FB.fr (h:FB w g x y) (k:Nat):w.frozen? ⟨g,k,none⟩=false:=by simp [World.frozen?,show w.heap[g]? = _ from h]
theorem FB.below {B:Nat} (h:FB w g x y) (hb:Below B w w') (hg:g < B):FB w' g x y:=(hb.block g hg).trans h
theorem FB.new (w:World) (x y:Value):FB (w.alloc (.cells #[x,y] 28)) w.heap.size x y:=heap_alloc_new w _
theorem FB.lt (h:FB w g x y):g < w.heap.size:=(Array.getElem?_eq_some_iff.1 h).1
theorem FB.alloc (h:FB w g x y) (o:Obj):FB (w.alloc o) g x y:=by
 have hg:g < w.heap.size:=(Array.getElem?_eq_some_iff.1 h).1
 exact (heap_alloc_old w o hg).trans h
theorem FB.set (h:FB w g x y) (x' y':Value):FB ((w.setCell ⟨g,0,none⟩ x').setCell ⟨g,1,none⟩ y') g x' y':=
 heap_setCell_same _ g 1 _ _ y' (heap_setCell_same w g 0 _ _ x' h)
theorem Below.set2 {B:Nat} (h:Below B w w') (hg:B≤g) (x' y':Value):Below B w ((w'.setCell ⟨g,0,none⟩ x').setCell ⟨g,1,none⟩ y'):=
 (h.setCell (p:=⟨g,0,none⟩) hg _).setCell (p:=⟨g,1,none⟩) hg _
end
theorem qAD {w:World} {base:Nat} {e:TypeId} {size n:Nat} {v:Value} {xs:List Value} (h:w.ownsRow base e size v n xs) {p:Addr} (hp:p.block < base) (u:Value):(w.setCell p u).ownsRow base e size v n xs:=by
 refine h.kept (row:=some p.block) ⟨rfl,rfl,rfl,by simp,fun k _ hk=>heap_setCell_other w p k u (fun e=>hk (by rw [e]))⟩ ?_
 rcases hv:v.ownBlock with _ | k
 · exact .inl rfl
 · right
   intro e;have:=(h.lt k hv).1
   cases e
   omega
theorem pcV_form (t:Tok):∃ T y,pcV t=.iface T y:=⟨_,_,rfl⟩
theorem scn_isZ {cs:List Nat} (h:allC cs=true) (a:Nat) (o:Int):∀ t ∈ (scn cs a o).1,R32 t:=fun t ht=>r32_may (List.all_eq_true.1 (scn_may cs a o h) t ht)
theorem qE7 (ts:List Tok) {k:Nat} (h:k < ts.length):ts.take (k+1)=ts.take k++[tk ts k]:=by
 rw [List.take_succ_eq_append_getElem h,qK8 h]
set_option maxHeartbeats 2000000 in
theorem tokScan_c (s:ByteArray) (w:World) (hs:s.size≤10000000000):Calls Tryz.prog 33 #[.string s] w fun e w'=>
 ∃ A m c,e=.returned (.tuple #[.slice A m c,.agg #[.int .i64 (toks (bts s)).2.1,.int .i64 (toks (bts s)).2.2]])∧Hid (OwnT w' w.heap.size A m c (toks (bts s)).1)∧Hid (Below w.heap.size w w'):=by
 generalize hg:w.heap.size=g at *
 have Hg:=hid hg
 clear hg
 have hgl:g≤w.heap.size:=by rw [Hg.out]; exact Nat.le_refl _
 have FB0:=FB.new w (.int .i64 0) (.int .i64 0)
 rw [Hg.out] at FB0
 have BW:=hid ((Below.refl g w).alloc hgl (.cells #[.int .i64 0,.int .i64 0] 28))
 generalize hW0:w.alloc (.cells #[.int .i64 0,.int .i64 0] 28)=W0 at *
 have hs0:W0.heap.size=g+1:=by rw [← hW0,World.size_alloc,Hg.out]
 have HW0:=hid hW0
 clear hW0
 go_enter Tryz.func33,Tryz.ntmps33
 go_wp2_with fail
 rw [HW0.out]
 refine (utfBad_c s W0 (by omega)).mono ?_
 rintro e w1 ⟨rfl,hb1⟩
 rw [hs0] at hb1
 have FB1:=FB0.below hb1 (Nat.lt_succ_self g)
 have B1:=hid (BW.out.trans (hb1.mono (Nat.le_succ g)))
 have hs1:g+1≤w1.heap.size:=by have:=hb1.size; omega
 clear hb1 FB0 BW
 rw [Hg.out]
 by_cases hr:rst (bts s)=[]
 · rw [qG8 hr]
   have hRZ:=Rem.zero hr;have hT:toks (bts s)=if 0≤(scn (cps (bts s)) 0 (-1)).2 then ([],3,(scn (cps (bts s)) 0 (-1)).2) else if 400 < (scn (cps (bts s)) 0 (-1)).1.length then ([],8,0) else ((scn (cps (bts s)) 0 (-1)).1,0,0):=by
    rw [toks,if_neg (by simp [hr])]
   have HR32:=hid (scn_isZ hRZ.2.2 0 (-1));have HC:=hid (split_c s w1 hs hr);generalize scn (cps (bts s)) 0 (-1)=F at *;clear hr hRZ
   go_wp2_with fail
   refine HC.out.mono ?_;rintro e w2 ⟨A,m,c,rfl,ho2,hb2⟩;clear HC;have FB2:=FB1.below hb2.out hs1;have B2:=hid (B1.out.trans (hb2.out.mono (Nat.le_trans (Nat.le_succ g) hs1)));have hs2:g+1≤w2.heap.size:=by have:=hb2.out.size; omega
   have hl2:(F.1.take 401).length=m:=by have:=ho2.out.1; simpa using this
   rw [List.length_take] at hl2;clear hb2 FB1
   by_cases ho:0≤F.2
   · rw [if_pos ho] at hT
     have HT:=hid hT;have hdo:decide (0≤F.2)=true:=decide_eq_true ho;generalize F.2=o at *;have f0:=FB2.c0;have f1:=FB2.c1;have f2:=FB2.fr 0;have f3:=FB2.fr 1;clear hT;have FE:=FB2.set (.int .i64 3) (.int .i64 o);have e0:=FE.c0;have e1:=FE.c1;have BE:=hid (Below.set2 B2.out (Nat.le_refl g) (.int .i64 3) (.int .i64 o));have OE:=hid (qDP ((w2.setCell ⟨g,0,none⟩ (.int .i64 3)).setCell ⟨g,1,none⟩ (.int .i64 o)) g);clear FE FB2
     go_wp2
     generalize hWE:(w2.setCell ⟨g,0,none⟩ (.int .i64 3)).setCell ⟨g,1,none⟩ (.int .i64 o)=WE at *;rw [HT.out];exact bodyPost_ret (v:=.tuple #[.slice none 0 0,.agg #[(.int .i64 3),(.int .i64 o)]]) (by simp [results,Tryz.results33,go_sem,e0,e1]) rfl ⟨_,_,_,rfl,OE,BE⟩
   · rw [if_neg ho] at hT
     have hdo:decide (0≤F.2)=false:=decide_eq_false ho
     by_cases hm:400 < F.1.length
     · rw [if_pos hm] at hT
       have HT:=hid hT;have hm1:m=401:=by omega
       subst hm1;clear hl2;have f0:=FB2.c0;have f1:=FB2.c1;have f2:=FB2.fr 0;have f3:=FB2.fr 1;clear hT;have FE:=FB2.set (.int .i64 8) (.int .i64 0);have e0:=FE.c0;have e1:=FE.c1;have BE:=hid (Below.set2 B2.out (Nat.le_refl g) (.int .i64 8) (.int .i64 0));have OE:=hid (qDP ((w2.setCell ⟨g,0,none⟩ (.int .i64 8)).setCell ⟨g,1,none⟩ (.int .i64 0)) g);clear FE FB2
       go_wp2
       generalize hWE:(w2.setCell ⟨g,0,none⟩ (.int .i64 8)).setCell ⟨g,1,none⟩ (.int .i64 0)=WE at *;rw [HT.out];exact bodyPost_ret (v:=.tuple #[.slice none 0 0,.agg #[(.int .i64 8),(.int .i64 0)]]) (by simp [results,Tryz.results33,go_sem,e0,e1]) rfl ⟨_,_,_,rfl,OE,BE⟩
     · rw [if_neg hm] at hT
       have HT:=hid hT;have hm1:F.1.length=m:=by omega
       have hm400:m≤400:=by omega
       rw [List.take_of_length_le (by omega)] at ho2;obtain ⟨L,o⟩:=F;dsimp only at *;have HL:=hid hm1;have HP:=hid (qB6.of_own ho2.out);generalize hq2:w2.heap.size=q at *;have Hq:=hid hq2;have BQ:=hid (Below.refl q w2);clear hT hl2 hm ho hm1 ho2 hq2
       go_wp2
       go_loopw [7,31] (fun v iv wr=>∃ (k:Nat),k≤m∧iv=.int .i64 (k:Int)∧wr.ownsRow q 61 3 v k (qCG (L.take k))∧Below q w2 wr) (fun _ iv _=>m - (intOf iv).toNat)
       case atStart=>exact ⟨0,Nat.zero_le _,rfl,World.ownsRow_nil _ _ _ _,BQ.out⟩
       case round=>
        obtain ⟨k,hk,rfl,ho0,hb0⟩:=hrel;have HO:=hid ho0;have HB:=hid hb0;have hqs:q≤wr.heap.size:=by have:=hb0.size; have:=Hq.out; omega
        have FB3:=FB2.below hb0 (by omega);clear hb0 ho0
        by_cases hlt:k < m
        · obtain ⟨ad,u,rfl,_,hu,hc⟩:=(HP.out.below HB.out).at_ hlt
          have hu':u=pcV (tk L k):=by
           rw [List.getElem?_map,List.getElem?_eq_getElem (by rw [HL.out]; exact hlt)] at hu;rw [qK8 (by rw [HL.out]; exact hlt)]
           simpa using hu.symm
          have HS:=hid (qE7 L (k:=k) (by rw [HL.out]; exact hlt));rw [hu'] at hc;have HC:=hid (tell_c (tk L k) wr);generalize tk L k=t at *;obtain ⟨T,y,hT⟩:=pcV_form t;rw [hT] at hc HC;clear hu' hu hT FB3
          go_wp2_with fail
          refine HC.out.mono ?_;rintro e w3 ⟨rfl,hb3⟩;have HO3:=hid (qCH HO.out hb3 rfl);have HB3:=hid (HB.out.trans (hb3.mono hqs));have hqs3:q≤w3.heap.size:=by have:=hb3.size; omega
          clear hb3 HC
          go_wp2_with (at_builtin; go_must (refine qAE rfl (.tmp 35) (.tmp 38) _ rfl Tryz.underlying56 q u7 k (L.take k) rfl HO3.out t rfl t.1 t.2.1 t.2.2 rfl (by omega) HB3.out hqs3 ?_))
          intro v' w' ho4 hb4 _
          go_wp2
          go_roundw
          case rel=>
           refine ⟨k+1,by omega,by go_num,?_,hb4.out⟩;rw [HS.out,qC7]; simpa [qC7] using ho4.out
          case measure=>simp [intOf]; omega
        · have hkm:k=m:=by omega
          subst hkm;rw [List.take_of_length_le (by rw [HL.out]; exact Nat.le_refl _)] at HO;obtain ⟨A7,c7,hA⟩:=qAL HO.out;subst hA;have f0:=FB3.c0;have f1:=FB3.c1;have f2:=FB3.fr 0;have f3:=FB3.fr 1;have FE:=FB3.set (.int .i64 0) (.int .i64 0);have e0:=FE.c0;have e1:=FE.c1;have BE:=hid (Below.set2 (B2.out.trans (HB.out.mono (by omega))) (Nat.le_refl g) (.int .i64 0) (.int .i64 0));have OE:=hid (show OwnT ((wr.setCell ⟨g,0,none⟩ (.int .i64 0)).setCell ⟨g,1,none⟩ (.int .i64 0)) g A7 k c7 L from
           ⟨qBZ (qAD (qAD HO.out (p:=⟨g,0,none⟩) hs2 _) (p:=⟨g,1,none⟩) hs2 _) (Nat.le_of_succ_le hs2),by omega,HR32.out⟩)
          clear FE FB3
          go_wp2
          generalize hWE:(wr.setCell ⟨g,0,none⟩ (.int .i64 0)).setCell ⟨g,1,none⟩ (.int .i64 0)=WE at *;rw [HT.out];exact bodyPost_ret (v:=.tuple #[.slice A7 k c7,.agg #[(.int .i64 0),(.int .i64 0)]]) (by simp [results,Tryz.results33,go_sem,e0,e1]) rfl ⟨_,_,_,rfl,OE,BE⟩
 · have hz:0≤badZ (bts s):=by
    rcases Int.lt_or_le (badZ (bts s)) 0 with h | h
    · exact absurd (qJ2.1 h) hr
    · exact h
   have HT:=hid (show toks (bts s)=([],2,badZ (bts s)) by rw [toks,if_pos hr]);generalize badZ (bts s)=Z at *;clear hr;have f0:=FB1.c0;have f1:=FB1.c1;have f2:=FB1.fr 0;have f3:=FB1.fr 1;have FE:=FB1.set (.int .i64 2) (.int .i64 Z);have e0:=FE.c0;have e1:=FE.c1;have BE:=hid (Below.set2 B1.out (Nat.le_refl g) (.int .i64 2) (.int .i64 Z));have OE:=hid (qDP ((w1.setCell ⟨g,0,none⟩ (.int .i64 2)).setCell ⟨g,1,none⟩ (.int .i64 Z)) g);clear FE FB1
   go_wp2
   generalize hWE:(w1.setCell ⟨g,0,none⟩ (.int .i64 2)).setCell ⟨g,1,none⟩ (.int .i64 Z)=WE at *;rw [HT.out];exact bodyPost_ret (v:=.tuple #[.slice none 0 0,.agg #[(.int .i64 2),(.int .i64 Z)]]) (by simp [results,Tryz.results33,go_sem,e0,e1]) rfl ⟨_,_,_,rfl,OE,BE⟩
attribute [local go_sem] qIJ
def Rg (zs:List Int):Prop:=∀ z ∈ zs,-2147483648≤z∧z≤2147483647
theorem tk_mem {ts:List Tok} {k:Nat} (h:k < ts.length):tk ts k ∈ ts:=by rw [qK8 h]; exact List.getElem_mem h
theorem drop_tk {ts:List Tok} {k:Nat} (h:k < ts.length):ts.drop k=tk ts k :: ts.drop (k+1):=by rw [List.drop_eq_getElem_cons h,qK8 h]
theorem qC8 {w w':World} {base B:Nat} {e:TypeId} {size n:Nat} {v:Value} {xs:List Value} (h:w.ownsRow base e size v n xs) (hv:∀ k,v.ownBlock=some k→k < B) (hb:Below B w w'):w'.ownsRow base e size v n xs:=by
 refine ⟨h.1,?_⟩
 rcases h.2 with h' | ⟨g,cap,cur,rfl,h1,h2,h3⟩
 · exact .inl h'
 · exact .inr ⟨g,cap,cur,rfl,h1,(hb.block g (hv g rfl)).trans h2,h3⟩
abbrev Itm:=Int × Int
def sgs:List Nat:=[45,43,37,8240,164]
def mks:List Nat:=[35,48,49,50,51,52,53,54,55,56,57,64,44,46,59,42]
def oth:List Nat:=[69,39]
def sgn (k:Nat):Nat:=sgs.getD k 0
def sgo (k:Nat):Nat:=[0,1,2,3,6,8].getD k 8
def sgK (r:Int):Int:=if r=45 then 2 else if r=43 then 3 else if r=37 then 4 else if r=8240 then 5 else if r=164 then 6 else 0
def mrk (r:Int):Bool:=decide (r ∈ ints mks)
def nds (r:Int):Bool:=decide (r ∈ ints sgs) || mrk r || decide (r ∈ ints oth)
theorem sgs_cons:ints sgs=[45,43,37,8240,164]:=rfl
theorem mks_cons:ints mks=[35,48,49,50,51,52,53,54,55,56,57,64,44,46,59,42]:=rfl
theorem oth_cons:ints oth=[69,39]:=rfl
theorem sgs_iff {r:Int}:r ∈ ints sgs↔r=45∨r=43∨r=37∨r=8240∨r=164:=by simp [sgs_cons]
theorem mrk_iff {r:Int}:mrk r=true↔(48≤r∧r≤57)∨r=35∨r=64∨r=44∨r=46∨r=59∨r=42:=by
 rw [mrk,decide_eq_true_iff,mks_cons]
 simp only [List.mem_cons,List.not_mem_nil,or_false]
 omega
theorem sgK_pos {r:Int}:sgK r≠0↔r ∈ ints sgs:=by
 rw [sgs_iff]; unfold sgK; repeat' split
 all_goals simp_all
theorem sgK_zero {r:Int}:sgK r=0↔¬ r ∈ ints sgs:=by rw [← sgK_pos]; simp
theorem sgK_sgn {k:Nat} (h:k < 5):sgK ((sgn k:Nat):Int)=2+(k:Int):=by
 have:k=0∨k=1∨k=2∨k=3∨k=4:=by omega
 rcases this with rfl | rfl | rfl | rfl | rfl <;> rfl
theorem sgK_none {r:Int} (h:∀ k,k < 5→r≠((sgn k:Nat):Int)):sgK r=0:=by
 rw [sgK_zero,sgs_iff]
 have h0:=h 0 (by omega)
 have h1:=h 1 (by omega)
 have h2:=h 2 (by omega)
 have h3:=h 3 (by omega)
 have h4:=h 4 (by omega)
 simp only [sgn,sgs,List.getD] at h0 h1 h2 h3 h4
 simp at h0 h1 h2 h3 h4
 omega
theorem qHP (r:Int):0≤sgK r∧sgK r≤6:=by
 unfold sgK; repeat' split
 all_goals omega
theorem nds_iff {r:Int}:nds r=true↔r ∈ ints sgs∨mrk r=true∨r=69∨r=39:=by
 rw [nds,Bool.or_eq_true,Bool.or_eq_true,decide_eq_true_iff,decide_eq_true_iff,oth_cons]
 simp only [List.mem_cons,List.not_mem_nil,or_false]
 constructor
 · rintro ((h | h) | h | h)
   · exact .inl h
   · exact .inr (.inl h)
   · exact .inr (.inr (.inl h))
   · exact .inr (.inr (.inr h))
 · rintro (h | h | h | h)
   · exact .inl (.inl h)
   · exact .inl (.inr h)
   · exact .inr (.inl h)
   · exact .inr (.inr h)
def itm (t:Tok):Itm:=if t.2.1=false∧sgK t.1≠0 then (sgK t.1,0) else (1,t.1)
theorem itm_q {t:Tok} (h:t.2.1=true):itm t=(1,t.1):=by rw [itm,if_neg (by rw [h]; simp)]
theorem itm_p {t:Tok} (h:sgK t.1=0):itm t=(1,t.1):=by rw [itm,if_neg (by rw [h]; simp)]
theorem itm_s {t:Tok} (h:t.2.1=false) (h':sgK t.1≠0):itm t=(sgK t.1,0):=by rw [itm,if_pos ⟨h,h'⟩]
def badT (t:Tok):Bool:=!t.2.1 && mrk t.1
def itms (ts:List Tok):List Itm × Int × Int:=
 match ts.find? badT with
 | some t=>([],4,t.2.2)
 | none=>if 40 < ts.length then ([],8,0) else (ts.map itm,0,0)
theorem qGZ {ts:List Tok} {t:Tok} (h:ts.find? badT=some t):itms ts=([],4,t.2.2):=by rw [itms,h]
theorem qFN {ts:List Tok} (h:ts.find? badT=none) (hl:40 < ts.length):itms ts=([],8,0):=by rw [itms,h]; exact if_pos hl
theorem qHQ {ts:List Tok} (h:ts.find? badT=none) (hl:¬ 40 < ts.length):itms ts=(ts.map itm,0,0):=by rw [itms,h]; exact if_neg hl
theorem find_at {ts:List Tok} {k:Nat} (hk:k < ts.length) (h:(ts.take k).find? badT=none) (hb:badT (tk ts k)=true):ts.find? badT=some (tk ts k):=by
 have e:ts=ts.take k++tk ts k :: ts.drop (k+1):=by
  conv=>lhs; rw [← List.take_append_drop k ts,List.drop_eq_getElem_cons hk,← qK8 hk]
 rw [e,List.find?_append,h]
 simp only [Option.none_or]
 rw [← e,List.find?_cons,hb]
theorem qK9 {ts:List Tok} {k:Nat} (hk:k < ts.length) (h:(ts.take k).find? badT=none) (hb:badT (tk ts k)=false):(ts.take (k+1)).find? badT=none:=by
 rw [List.take_succ_eq_append_getElem hk,List.find?_append,h,← qK8 hk]
 simp [hb]
def mayI (i:Itm):Bool:=(decide (i.1=1) && isZ i.2) || (decide (2≤i.1) && decide (i.1≤6) && decide (i.2=0))
theorem qFO {k r:Int}:mayI (k,r)=true↔(k=1∧isZ r=true)∨(2≤k∧k≤6∧r=0):=by
 simp [mayI,and_assoc]
def tkI (i:Itm):Tok:=if i.1=1 then (i.2,nds i.2,0) else (((sgn (i.1.toNat - 2):Nat):Int),false,0)
theorem tkI_lit (r:Int):tkI (1,r)=(r,nds r,0):=rfl
theorem tkI_sign {k:Nat} (r:Int):tkI (2+(k:Int),r)=(((sgn k:Nat):Int),false,0):=by
 rw [tkI,if_neg (by omega),show (2+(k:Int)).toNat - 2=k by omega]
def tksI (is:List Itm):List Tok:=if is.all mayI then is.map tkI else []
theorem qAQ {is:List Itm} (h:is.all mayI=true):tksI is=is.map tkI:=by rw [tksI,if_pos h]
theorem sgn_Z {k:Nat} (h:k < 5):isZ ((sgn k:Nat):Int)=true∧((sgn k:Nat):Int)≠39∧mrk ((sgn k:Nat):Int)=false:=by
 have:k=0∨k=1∨k=2∨k=3∨k=4:=by omega
 rcases this with rfl | rfl | rfl | rfl | rfl <;> exact ⟨by decide,by decide,by decide⟩
theorem qHR {i:Itm} (h:mayI i=true):(i.1=1∧isZ i.2=true)∨∃ k:Nat,k < 5∧i=(2+(k:Int),0):=by
 obtain ⟨a,r⟩:=i
 rcases qFO.1 h with h | ⟨h1,h2,h3⟩
 · exact .inl h
 · exact .inr ⟨a.toNat - 2,by omega,by rw [h3,show 2+((a.toNat - 2:Nat):Int)=a by omega]⟩
theorem nds_39 {r:Int} (h:nds r=false):r≠39∧sgK r=0∧mrk r=false:=by
 have h':¬ nds r=true:=by rw [h]; decide
 rw [nds_iff] at h'
 simp only [not_or] at h'
 obtain ⟨h1,h2,_,h3⟩:=h'
 exact ⟨h3,sgK_zero.2 h1,by simpa using h2⟩
theorem qH0 {i:Itm} (h:mayI i=true):mayT (tkI i)=true∧badT (tkI i)=false∧itm (tkI i)=i:=by
 rcases qHR h with ⟨h1,h2⟩ | ⟨k,hk,rfl⟩
 · obtain ⟨a,r⟩:=i
   dsimp only at h1 h2;subst h1;rw [tkI_lit]
   rcases hn:nds r with _ | _
   · obtain ⟨n1,n2,n3⟩:=nds_39 hn
     refine ⟨?_,?_,itm_p n2⟩
     · simp [mayT,h2,n1]
     · simp [badT,n3]
   · exact ⟨by simp [mayT,h2],rfl,itm_q rfl⟩
 · obtain ⟨z1,z2,z3⟩:=sgn_Z hk
   rw [tkI_sign];refine ⟨?_,?_,?_⟩
   · simp [mayT,z1,z2]
   · simp [badT,z3]
   · rw [itm_s rfl (by dsimp only; rw [sgK_sgn hk]; omega)]
     dsimp only;rw [sgK_sgn hk]
theorem qCI (is:List Itm):(tksI is).all mayT=true:=by
 unfold tksI; split
 · rename_i h
   refine List.all_eq_true.2 fun t ht=>?_
   obtain ⟨i,hi,rfl⟩:=List.mem_map.1 ht;exact (qH0 (List.all_eq_true.1 h i hi)).1
 · rfl
theorem find_none {ts:List Tok} (h:∀ t ∈ ts,badT t=false):ts.find? badT=none:=by
 rw [List.find?_eq_none]
 intro t ht
 rw [h t ht]; decide
theorem itm_er {t t':Tok} (h:er t=er t'):itm t=itm t'∧badT t=badT t':=by
 obtain ⟨r,q,a⟩:=t
 obtain ⟨r',q',a'⟩:=t'
 simp only [er,Prod.mk.injEq] at h
 obtain ⟨rfl,rfl⟩:=h
 exact ⟨rfl,rfl⟩
theorem itms_back {is:List Itm} {ts:List Tok} (h:is.all mayI=true) (hl:is.length≤40) (he:ts.map er=(tksI is).map er):itms ts=(is,0,0):=by
 rw [qAQ h,List.map_map] at he
 have hlen:ts.length=is.length:=by have:=congrArg List.length he; simpa using this
 have hat:∀ (j:Nat) (h1:j < ts.length) (h2:j < is.length),er ts[j]=er (tkI is[j]):=by
  intro j h1 h2;have e:(ts.map er)[j]? = (is.map (er ∘ tkI))[j]?:=by rw [he]
  rw [List.getElem?_map,List.getElem?_map,List.getElem?_eq_getElem h1,List.getElem?_eq_getElem h2] at e
  simpa using e
 have hb:ts.find? badT=none:=by
  refine find_none fun t ht=>?_
  obtain ⟨j,hj,rfl⟩:=List.mem_iff_getElem.1 ht;rw [(itm_er (hat j hj (by omega))).2];exact (qH0 (List.all_eq_true.1 h _ (List.getElem_mem (by omega)))).2.1
 rw [qHQ hb (by omega)]
 refine Prod.ext ?_ rfl
 refine List.ext_getElem (by rw [List.length_map]; exact hlen) fun j h1 h2=>?_
 rw [List.length_map] at h1
 dsimp only at h2
 rw [List.getElem_map,(itm_er (hat j h1 h2)).1]
 exact (qH0 (List.all_eq_true.1 h _ (List.getElem_mem h2))).2.2
theorem qEP (ts:List Tok):(itms ts).1.length≤40:=by
 unfold itms; split
 · exact Nat.zero_le _
 · split
   · exact Nat.zero_le _
   · simp; omega
def itmV (i:Itm):List Value:=[.int .i64 i.1,.int .i32 i.2]
def itsV (is:List Itm):List Value:=is.flatMap itmV
theorem qHS (i:Itm) (is:List Itm):itsV (i :: is)=itmV i++itsV is:=rfl
theorem qCJ (is:List Itm):(itsV is).length=is.length * 2:=by
 induction is with
 | nil=>rfl
 | cons i is ih=>rw [qHS,List.length_append,ih]; simp only [itmV,List.length_cons,List.length_nil]; omega
theorem qHT (is js:List Itm):itsV (is++js)=itsV is++itsV js:=by simp [itsV]
theorem itsV_one (i:Itm):itsV [i]=itmV i:=by simp [itsV]
def im (is:List Itm) (k:Nat):Itm:=is.getD k (0,0)
theorem im_eq {is:List Itm} {k:Nat} (h:k < is.length):im is k=is[k]:=by simp [im,List.getD,List.getElem?_eq_getElem h]
theorem im_mem {is:List Itm} {k:Nat} (h:k < is.length):im is k ∈ is:=by rw [im_eq h]; exact List.getElem_mem h
theorem qGL (is:List Itm) {k:Nat} (h:k < is.length):is.take (k+1)=is.take k++[im is k]:=by
 rw [List.take_succ_eq_append_getElem h,im_eq h]
theorem itsV_get (is:List Itm):∀ (k j:Nat),k < is.length→j < 2→(itsV is)[k * 2+j]? = (itmV (im is k))[j]?:=by
 induction is with
 | nil=>intro k j h _; simp at h
 | cons t ts ih=>
  intro k j h hj
  cases k with
  | zero=>
   rw [qHS,List.getElem?_append_left (by show _ < 2; omega)];simp [im]
  | succ k=>
   rw [qHS,List.getElem?_append_right (by show 2≤_; omega)];rw [show (k+1) * 2+j - (itmV t).length=k * 2+j by show _ - 2=_; omega,ih k j (by simpa using h) hj];simp [im]
def RI (i:Itm):Prop:=(-9223372036854775808≤i.1∧i.1≤9223372036854775807)∧-2147483648≤i.2∧i.2≤2147483647
theorem ri_itm {t:Tok} (h:R32 t):RI (itm t):=by
 have:=qHP t.1
 unfold itm; split
 · exact ⟨⟨by dsimp only; omega,by dsimp only; omega⟩,by dsimp only; omega,by dsimp only; omega⟩
 · exact ⟨⟨by dsimp only; omega,by dsimp only; omega⟩,h⟩
theorem r32_tkI {i:Itm} (h:RI i):R32 (tkI i):=by
 unfold tkI; split
 · exact h.2
 · have hg:sgn (i.1.toNat - 2)≤8240:=by
    rcases Nat.lt_or_ge (i.1.toNat - 2) 5 with hk | hk
    · generalize i.1.toNat - 2=k at hk
      have:k=0∨k=1∨k=2∨k=3∨k=4:=by omega
      rcases this with rfl | rfl | rfl | rfl | rfl <;> decide
    · rw [sgn,List.getD,List.getElem?_eq_none hk]; decide
   exact ⟨by dsimp only; omega,by dsimp only; omega⟩
def Its (w:World) (A:Option Addr) (n:Nat) (is:List Itm):Prop:=qB6 w w.heap.size 2 A n (itsV is)∧n≤36000000000000∧∀ i ∈ is,RI i
section
variable {w w':World} {n:Nat} {A:Option Addr} {is:List Itm}
theorem Its.len (h:Its w A n is):is.length=n:=by have:=h.1.1; rw [qCJ] at this; omega
theorem Its.below (h:Its w A n is) (hb:Below w.heap.size w w'):Its w' A n is:=⟨(h.1.below hb).more hb.size,h.2⟩
theorem Its.at_ {k:Nat} (h:Its w A n is) (hk:k < n):∃ ad,A=some ad∧ad.block < w.heap.size∧w.cell? (ad.add (k * 2))=some (.int .i64 (im is k).1)∧w.cell? ⟨(ad.add (k * 2)).block,(ad.add (k * 2)).off+1,none⟩=some (.int .i32 (im is k).2)∧RI (im is k):=by
 obtain ⟨ad,e,hb,hc⟩:=h.1.2 (by omega)
 have hl:k < is.length:=by rw [h.len]; exact hk
 have f1:=hc (k * 2+1) (.int .i32 (im is k).2) (by rw [itsV_get is k 1 hl (by omega)]; rfl)
 rw [← qBY] at f1
 refine ⟨ad,e,hb,hc (k * 2) _ ?_,f1,?_⟩
 · have:=itsV_get is k 0 hl (by omega); rw [Nat.add_zero] at this; rw [this]; rfl
 · rw [im_eq hl]; exact h.2.2 _ (List.getElem_mem hl)
end
theorem qHU (w:World):Its w none 0 []:=⟨qB6.none_,by omega,by simp⟩
theorem itm_info:(Tryz.prog.info? 53).map (fun i=>(i.zero,i.size,i.bytes))=some (some (.agg #[.int .i64 0,.int .i32 0]),2,16):=by kernel_rfl
def OwnI (w:World) (base:Nat) (A:Option Addr) (m c:Nat) (is:List Itm):Prop:=
 w.ownsRow base 53 2 (.slice A m c) m (itsV is)∧m≤10000000000∧∀ i ∈ is,RI i
section
variable {w w':World} {base m c:Nat} {A:Option Addr} {is:List Itm}
end
theorem qH1 (w:World) (base:Nat):OwnI w base none 0 0 []:=⟨World.ownsRow_nil _ _ _ _,by omega,by simp⟩
theorem qC6 {W w0:World} {ops:Array Oper} {rest:List Oper} {o:Oper} {a:Act} {Q:Exit→Act→World→Prop} (hgd:o.guard=none) (s x:Operand) (t:TypeId)
 (ho:o.op=.call { callee:=.builtin .append,args:=#[s,x],argTypes:=#[t,t] }) (ht:Tryz.prog.underlying t=some (.slice 53))
 (base:Nat) (v:Value) (k:Nat) (is:List Itm) (hs:a.eval s=v) (hown:W.ownsRow base 53 2 v k (itsV is)) (u:Itm)
 (hx:a.eval x=.slice (some ⟨W.heap.size,0,none⟩) 1 1) (p r:Int) (hu:u=(p,r)) (hk:k≤1000000000000) (hb:Below base w0 W) (hbase:base≤W.heap.size)
 (h:∀ v' w',Hid (w'.ownsRow base 53 2 v' (k+1) (itsV (is++[u])))→Hid (Below base w0 w')→Hid (∀ k,k < W.heap.size→v.ownBlock≠some k→w'.heap[k]? = W.heap[k]?)→wpList Tryz.prog ops Q rest (a.put o.dst v') w') :
 wpList Tryz.prog ops Q (o :: rest) a (W.alloc (.cells #[.int .i64 p,.int .i32 r] 53)):=by
 obtain ⟨i0,hi,hz0,hz1,hz2⟩:=info_parts itm_info
 subst hu
 refine wpList_append_own _ hgd s x t ho base 53 i0 _ 2 16 ht hi hz0 hz1 hz2 rfl (by decide) v k _ hs (hown.alloc _) ⟨W.heap.size,0,none⟩ 1 1 [.int .i64 p,.int .i32 r] hx rfl (qDA W _ _) ?_ ?_ ?_ ?_ ?_
 · intro v hv
   simp only [List.mem_cons,List.not_mem_nil,or_false] at hv
   rcases hv with rfl | rfl <;> rfl
 · unfold maxLen; omega
 · omega
 · simp; omega
 · intro v' w' h1 h2 _
   refine h v' w' ?_ ?_ ?_
   · rw [qHT,itsV_one]; exact h1
   · refine (hb.alloc hbase _).grown h2 (by simp; omega) fun j hj=>?_
     exact (hown.lt j hj).1
   · intro k hk hne
     rw [h2.block k (by simp; omega) (fun e=>hne e.symm)]
     show (W.heap.push _)[k]? = _
     rw [Array.getElem?_push_lt hk,Array.getElem?_eq_getElem hk]
def sgB:ByteArray:=⟨#[45,43,37,226,128,176,194,164]⟩
def mkB:ByteArray:=⟨#[35,48,49,50,51,52,53,54,55,56,57,64,44,46,59,42]⟩
theorem mkB_eq:stz (encs mks)=mkB:=by decide +kernel
theorem sg_step {k:Nat} (h:k < 5):Utf8.decode sgB (sgo k)=(sgn k,sgo (k+1) - sgo k)∧sgo k < sgB.size∧sgo k+(sgo (k+1) - sgo k)=sgo (k+1)∧sgo k≤6∧1≤sgo (k+1) - sgo k:=by
 have:k=0∨k=1∨k=2∨k=3∨k=4:=by omega
 rcases this with rfl | rfl | rfl | rfl | rfl <;> refine ⟨by decide +kernel,by decide,by decide,by decide,by decide⟩
theorem sg_end:¬ sgo 5 < sgB.size:=by decide
def BX (w:World) (g:Nat) (vs:Array Value) (T:TypeId):Prop:=w.heap[g]? = some (.cells vs T (0,0))
section
variable {w w':World} {g:Nat} {vs:Array Value} {T:TypeId}
theorem BX.c (h:BX w g vs T) (j:Nat):w.cell? ⟨g,j,none⟩=vs[j]?:=by rw [cell_of_row w g j _ _ _ h]
theorem BX.v {v:Value} (h:BX w g vs T) (j:Nat) (hv:vs[j]? = some v):w.cell? ⟨g,j,none⟩=some v:=(h.c j).trans hv
theorem BX.fr (h:BX w g vs T) (k:Nat):w.frozen? ⟨g,k,none⟩=false:=by simp [World.frozen?,show w.heap[g]? = _ from h]
theorem BX.below {B:Nat} (h:BX w g vs T) (hb:Below B w w') (hg:g < B):BX w' g vs T:=(hb.block g hg).trans h
theorem BX.new (w:World) (vs:Array Value) (T:TypeId):BX (w.alloc (.cells vs T)) w.heap.size vs T:=heap_alloc_new w _
theorem BX.lt (h:BX w g vs T):g < w.heap.size:=(Array.getElem?_eq_some_iff.1 h).1
theorem BX.alloc (h:BX w g vs T) (o:Obj):BX (w.alloc o) g vs T:=(heap_alloc_old w o h.lt).trans h
theorem BX.set2 {x y:Value} (h:BX w g #[x,y] T) (x' y':Value):BX ((w.setCell ⟨g,0,none⟩ x').setCell ⟨g,1,none⟩ y') g #[x',y'] T:=
 heap_setCell_same _ g 1 _ _ y' (heap_setCell_same w g 0 _ _ x' h)
theorem BX.set3 {x y z:Value} (h:BX w g #[x,y,z] T) (x' y' z':Value):BX (((w.setCell ⟨g,0,none⟩ x').setCell ⟨g,1,none⟩ y').setCell ⟨g,2,none⟩ z') g #[x',y',z'] T:=
 heap_setCell_same _ g 2 _ _ z' (heap_setCell_same _ g 1 _ _ y' (heap_setCell_same w g 0 _ _ x' h))
theorem Below.set3 {B:Nat} (h:Below B w w') (hg:B≤g) (x' y' z':Value):Below B w (((w'.setCell ⟨g,0,none⟩ x').setCell ⟨g,1,none⟩ y').setCell ⟨g,2,none⟩ z'):=
 (Below.set2 h hg x' y').setCell (p:=⟨g,2,none⟩) hg _
end
theorem ints_mem {x:Nat} {cs:List Nat}:((x:Nat):Int) ∈ ints cs↔x ∈ cs:=by
 constructor
 · intro h
   obtain ⟨y,hy,e⟩:=List.mem_map.1 h
   rwa [← Int.ofNat_inj.1 e]
 · exact fun h=>List.mem_map.2 ⟨x,h,rfl⟩
set_option maxHeartbeats 1000000 in
theorem has_c (s:ByteArray) (cs:List Nat) (hs:stz (encs cs)=s) (hc:allC cs=true) (r:Int) (w:World):Calls Tryz.prog 73 #[.string s,.int .i32 r] w fun e w'=>
 e=.returned (.bool (decide (r ∈ ints cs)))∧Below w.heap.size w w':=by
 have hcp:cps (bts s)=cs∧rst (bts s)=[]:=by rw [← hs,qAM (qIZ hc)]; exact ⟨cps_encs hc,rst_encs hc⟩
 have HCP:=hid hcp
 clear hcp hs
 generalize hg:w.heap.size=g at *
 have Hg:=hid hg
 clear hg
 have B0:=hid (show Below g w w by rw [← Hg.out]; exact Below.refl _ _)
 go_enter Tryz.func73,Tryz.ntmps73
 go_wp2
 rw [Hg.out]
 go_loopw [] (fun wr=>∃ (p:Nat) (ds:List Nat),Upto s p ds∧wr.heap[g]? = some (.stringIter s p)∧(∀ x ∈ ds,r≠(x:Int))∧Below g w wr) (fun wr=>s.size - wr.iterPos g)
 case atStart=>
  refine ⟨0,[],Upto.zero s,?_,fun x hx=>absurd hx (by simp),B0.out.alloc (by rw [Hg.out]; exact Nat.le_refl _) _⟩;rw [← Hg.out]; exact heap_alloc_new w _
 case round=>
  obtain ⟨p,ds,hu0,hit0,hds0,hb0⟩:=hrel;have HU:=hid hu0;have HIT:=hid hit0;have HD:=hid hds0;have HB:=hid hb0;have hple:=hu0.1;have hpos0:wr.iterPos g=p:=by simp [World.iterPos,hit0]
  have HPOS:=hid hpos0;clear hu0 hit0 hds0 hb0 hpos0
  by_cases hlt:p < s.size
  · have hnx:=Lib.run_next_any_at (P:=Tryz.prog) wr g s p 0 HIT.out hlt
    rcases hf:fstN ((bts s).drop p) with _ | c
    · exact absurd HCP.out.2 (HU.out.here hlt hf).2.1
    · obtain ⟨hcc,hu1,hd,hw1⟩:=HU.out.step hf
      rw [hd] at hnx;have HU1:=hid hu1;have HBQ:=hid (Lib.below_iterAt HB.out (Nat.le_refl g) s (p+(encN c).length));have HITQ:=hid (Lib.iterAt_heap wr g s p (p+(encN c).length) HIT.out);have hcle:=qFK hcc;clear hu1 hd hf hcc
      by_cases hr:(c:Int)=r
      · subst hr
        have HM:=hid (show decide (((c:Nat):Int) ∈ ints cs)=true by
         rw [decide_eq_true_iff,ints_mem];have e:=HU1.out.scan.1;rw [HCP.out.1] at e;rw [e]; simp)
        go_wp2
        go_ret
        rw [HM.out];exact ⟨rfl,HBQ.out⟩
      · have g1:((c:Int) == r)=false:=by simpa using hr
        have HR:=hid (Ne.symm hr);clear hr
        go_wp2
        go_roundw
        case rel=>
         refine ⟨_,_,HU1.out,HITQ.out,fun x hx=>?_,HBQ.out⟩
         rcases List.mem_append.1 hx with hx | hx
         · exact HD.out x hx
         · rw [List.mem_singleton] at hx; subst hx; exact HR.out
        case measure=>
         have e1:(wr.iterAt g s (p+(encN c).length)).iterPos g=p+(encN c).length:=by simp [World.iterPos,HITQ.out]
         rw [HPOS.out,e1]; omega
  · have hnx:=Lib.run_next_end_at (P:=Tryz.prog) wr g s p 0 HIT.out hlt
    have HM:=hid (show decide (r ∈ ints cs)=false by
     rw [decide_eq_false_iff_not];intro hm;obtain ⟨x,hx,e⟩:=List.mem_map.1 hm;have e2:=(HU.out.end_ hlt).1;rw [HCP.out.1] at e2;rw [e2] at hx;exact HD.out x hx e.symm)
    go_wp2
    go_ret
    rw [HM.out];exact ⟨rfl,HB.out⟩
theorem hasM_c (r:Int) (w:World):Calls Tryz.prog 73 #[.string ⟨#[35,48,49,50,51,52,53,54,55,56,57,64,44,46,59,42]⟩,.int .i32 r] w fun e w'=>e=.returned (.bool (mrk r))∧Below w.heap.size w w':=
 has_c mkB mks mkB_eq (by decide) r w
set_option maxHeartbeats 1000000 in
theorem item_c (r:Int) (q:Bool) (a:Int) (w:World):Calls Tryz.prog 74 #[.agg #[.int .i32 r,.bool q,.int .i64 a]] w fun e w'=>
 e=.returned (.agg #[.int .i64 (itm (r,q,a)).1,.int .i32 (itm (r,q,a)).2])∧Below w.heap.size w w':=by
 generalize hg:w.heap.size=g at *
 have Hg:=hid hg
 clear hg
 have A0:=(BX.new w #[.int .i32 r,.bool q,.int .i64 a] 61).alloc (.cells #[.int .i64 0,.int .i32 0] 53)
 have A1:=BX.new (w.alloc (.cells #[.int .i32 r,.bool q,.int .i64 a] 61)) #[.int .i64 0,.int .i32 0] 53
 rw [World.size_alloc,Hg.out] at A1
 rw [Hg.out] at A0
 have B1:=hid ((Below.refl (g+1+1) ((w.alloc (.cells #[.int .i32 r,.bool q,.int .i64 a] 61)).alloc (.cells #[.int .i64 0,.int .i32 0] 53))))
 have B0:=hid (((Below.refl g w).alloc (by rw [Hg.out]; exact Nat.le_refl _) (.cells #[.int .i32 r,.bool q,.int .i64 a] 61)).alloc (by rw [World.size_alloc,Hg.out]; omega) (.cells #[.int .i64 0,.int .i32 0] 53))
 have S1:((w.alloc (.cells #[.int .i32 r,.bool q,.int .i64 a] 61)).alloc (.cells #[.int .i64 0,.int .i32 0] 53)).heap.size=g+1+1:=by rw [World.size_alloc,World.size_alloc,Hg.out]
 have S1:=hid S1
 have A0:=hid A0
 have A1:=hid A1
 go_enter Tryz.func74,Tryz.ntmps74
 go_wp2
 rw [Hg.out]
 go_loopw [3] (fun kv wr=>∃ (k:Nat),k≤5∧kv=.int .i64 (2+(k:Int))∧wr.heap[g+1+1]? = some (.stringIter sgB (sgo k))∧(q=false→∀ j,j < k→r≠((sgn j:Nat):Int))∧Below (g+1+1) ((w.alloc (.cells #[.int .i32 r,.bool q,.int .i64 a] 61)).alloc (.cells #[.int .i64 0,.int .i32 0] 53)) wr) (fun _ wr=>sgB.size - wr.iterPos (g+1+1))
 case atStart=>
  refine ⟨0,by omega,rfl,?_,fun _ j hj=>absurd hj (by omega),B1.out.alloc (by rw [S1.out]; exact Nat.le_refl _) _⟩;rw [← S1.out]; exact heap_alloc_new _ _
 case round=>
  obtain ⟨k,hk,rfl,hit0,hno0,hb0⟩:=hrel;have HIT:=hid hit0;have HN:=hid hno0;have HB:=hid hb0;have hpos0:wr.iterPos (g+1+1)=sgo k:=by simp [World.iterPos,hit0]
  have HPOS:=hid hpos0;have cA0:wr.cell? ⟨g,0,none⟩=some (.int .i32 r):=(A0.out.below hb0 (by omega)).c 0;have cA1:wr.cell? ⟨g,1,none⟩=some (.bool q):=(A0.out.below hb0 (by omega)).c 1
  by_cases hlt:k < 5
  · obtain ⟨hd,hsz,hnx1,hle,hps⟩:=sg_step hlt
    have hnx:=Lib.run_next_any_at (P:=Tryz.prog) wr (g+1+1) sgB (sgo k) 0 HIT.out hsz;rw [hd] at hnx;dsimp only at hnx;rw [hnx1] at hnx;have HBQ0:=Lib.below_iterAt HB.out (Nat.le_refl (g+1+1)) sgB (sgo (k+1));have HBQ:=hid HBQ0;have HITQ:=hid (Lib.iterAt_heap wr (g+1+1) sgB (sgo k) (sgo (k+1)) HIT.out);have HK:=hid (sgK_sgn hlt);have d0:(wr.iterAt (g+1+1) sgB (sgo (k+1))).cell? ⟨g,0,none⟩=some (.int .i32 r):=(A0.out.below HBQ0 (by omega)).c 0;have d1:(wr.iterAt (g+1+1) sgB (sgo (k+1))).cell? ⟨g,1,none⟩=some (.bool q):=(A0.out.below HBQ0 (by omega)).c 1;have FX:=A1.out.below HBQ0 (by omega);have hm:sgB.size - sgo (k+1) < sgB.size - sgo k:=by omega
    have HM:=hid hm;clear hit0 hno0 hb0 hpos0 hm hd hnx1 hps HBQ0 cA0 cA1;generalize hW:wr.iterAt (g+1+1) sgB (sgo (k+1))=W at *;have HW:=hid hW;have e1:W.iterPos (g+1+1)=sgo (k+1):=by simp [World.iterPos,HITQ.out]
    have E1:=hid e1;clear hW e1;generalize hp:sgo (k+1)=p1 at *;have HP:=hid hp;clear hp;generalize hs:sgn k=sk at *;have HS:=hid hs;clear hs
    cases q
    · by_cases hr:(sk:Int)=r
      · subst hr
        have FE:=FX.set2 (.int .i64 (2+(k:Int))) (.int .i32 0);have e0:=FE.v 0 rfl;have e1:=FE.v 1 rfl;have BE:=hid (Below.set2 (B0.out.trans (HBQ.out.mono (by omega))) (show g≤g+1 by omega) (.int .i64 (2+(k:Int))) (.int .i32 0));have f0:=FX.v 0 rfl;have f1:=FX.v 1 rfl;have f2:=FX.fr 0;have f3:=FX.fr 1;have HV:=hid (show itm ((sk:Int),false,a)=(2+(k:Int),0) by rw [itm_s rfl (by dsimp only; rw [HK.out]; omega)]; dsimp only; rw [HK.out]);clear FE FX
        go_wp2
        generalize hWE:(W.setCell ⟨g+1,0,none⟩ (.int .i64 (2+(k:Int)))).setCell ⟨g+1,1,none⟩ (.int .i32 0)=WE at *;rw [HV.out];exact bodyPost_ret (v:=.agg #[.int .i64 (2+(k:Int)),.int .i32 0]) (by simp [results,Tryz.results74,go_sem,e0,e1]) rfl ⟨rfl,BE.out⟩
      · have g1:((sk:Int) == r)=false:=by simpa using hr
        have HR:=hid (Ne.symm hr);clear hr FX
        go_wp2
        go_roundw
        case rel=>
         refine ⟨k+1,by omega,by go_num,by rw [HP.out]; exact HITQ.out,fun _ j hj=>?_,HBQ.out⟩
         rcases Nat.lt_or_ge j k with hjk | hjk
         · exact HN.out rfl j hjk
         · obtain rfl:j=k:=by omega
           rw [HS.out]; exact HR.out
        case measure=>rw [HPOS.out,E1.out]; exact HM.out
    · clear FX
      go_wp2
      go_roundw
      case rel=>exact ⟨k+1,by omega,by go_num,by rw [HP.out]; exact HITQ.out,(fun h=>by cases h),HBQ.out⟩
      case measure=>rw [HPOS.out,E1.out]; exact HM.out
  · obtain rfl:k=5:=by omega
    have hnx:=Lib.run_next_end_at (P:=Tryz.prog) wr (g+1+1) sgB (sgo 5) 0 HIT.out sg_end;have FX:=A1.out.below hb0 (by omega);have FE:=FX.set2 (.int .i64 1) (.int .i32 r);have e0:=FE.v 0 rfl;have e1:=FE.v 1 rfl;have BE:=hid (Below.set2 (B0.out.trans (HB.out.mono (by omega))) (show g≤g+1 by omega) (.int .i64 1) (.int .i32 r));have f0:=FX.v 0 rfl;have f1:=FX.v 1 rfl;have f2:=FX.fr 0;have f3:=FX.fr 1;have HV:=hid (show itm (r,q,a)=(1,r) by
     cases q
     · exact itm_p (sgK_none fun j hj=>HN.out rfl j hj)
     · exact itm_q rfl)
    clear FE FX hit0 hno0 hb0 hpos0
    go_wp2
    generalize hWE:(wr.setCell ⟨g+1,0,none⟩ (.int .i64 1)).setCell ⟨g+1,1,none⟩ (.int .i32 r)=WE at *;rw [HV.out];exact bodyPost_ret (v:=.agg #[.int .i64 1,.int .i32 r]) (by simp [results,Tryz.results74,go_sem,e0,e1]) rfl ⟨rfl,BE.out⟩
end Go.Proofs.YtmeaiaecmmglnaaGreatDoor
