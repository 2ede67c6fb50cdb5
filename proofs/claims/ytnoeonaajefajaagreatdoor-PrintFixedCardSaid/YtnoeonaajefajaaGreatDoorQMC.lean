import Derived.Test.YtnoeonaajefajaaGreatDoorQMA
import Derived.Test.YtnoeonaajefajaaGreatDoorQMB
set_option linter.all false
set_option maxRecDepth 100000
namespace Go.Proofs.YtnoeonaajefajaaGreatDoor
structure NF where
 minInt:Nat:=0
 maxInt:Nat:=0
 minFrac:Nat:=0
 maxFrac:Nat:=0
 minSig:Nat:=0
 maxSig:Nat:=0
 prim:Nat:=0
 sec:Nat:=0
 inc:List Nat:=[]
 sci:Bool:=false
 minExp:Nat:=0
 plus:Bool:=false
deriving DecidableEq
def dg (c:Nat):Bool:=decide (48≤c) && decide (c≤57)
def h35 (c:Nat):Bool:=c == 35
def a64 (c:Nat):Bool:=c == 64
def z48 (c:Nat):Bool:=c == 48
def okB (c:Nat):Bool:=h35 c || a64 c || c == 44 || c == 46 || dg c
def spl:List Nat→Nat→List Nat
 | [],n=>[n]
 | c :: t,n=>if c=44 then n :: spl t 0 else spl t (n+1)
def qBB (A B C:Nat→Bool) (l:List Nat):Bool:=(((l.dropWhile A).dropWhile B).dropWhile C).isEmpty
def primZ (sz:List Nat):Nat:=if 1 < sz.length then sz.getD (sz.length - 1) 0 else 0
def secZ (sz:List Nat):Nat:=if 2 < sz.length then sz.getD (sz.length - 2) 0 else primZ sz
def incZ (l:List Nat):List Nat:=(l.filter fun c=>!h35 c).dropWhile z48
def expT (e:List Nat):List Nat:=e.drop (if e.head? = some 43 then 1 else 0)
def expZ (e:List Nat):Nat × Nat × Bool:=
 if (expT e).isEmpty || !(expT e).all z48 then (4,0,false) else if 9 < (expT e).length then (8,0,false) else (0,(expT e).length,decide (e.head? = some 43))
def bigN (p:NF):Bool:=decide (40 < p.minInt) || decide (40 < p.maxInt) || decide (40 < p.maxFrac) || decide (40 < p.maxSig) || decide (40 < p.prim) || decide (40 < p.sec) || decide (40 < p.inc.length)
def finN (mix:Bool) (p:NF):NF × Nat:=if mix then ({},6) else if bigN p then ({},8) else (p,0)
def sigN (plain:List Nat) (sz:List Nat) (sci:Bool) (me:Nat) (plus:Bool):NF:=
 { minSig:=plain.countP a64,maxSig:=(plain.dropWhile h35).length,prim:=primZ sz,sec:=secZ sz,sci:=sci,minExp:=me,plus:=plus }
def digN (plain frac:List Nat) (sz:List Nat) (sci:Bool) (me:Nat) (plus:Bool):NF:=
 { minInt:=plain.countP dg,maxInt:=if sci then plain.length else 0,minFrac:=frac.countP dg,maxFrac:=frac.length,prim:=primZ sz,sec:=secZ sz,inc:=incZ (plain++frac),sci:=sci,minExp:=me,plus:=plus }
def numP (plain frac:List Nat) (point:Bool) (sz:List Nat) (sci:Bool) (me:Nat) (plus:Bool):NF × Nat:=
 if (plain++frac).any a64 then
  if point || plain.any dg then ({},6)
  else if !qBB h35 a64 h35 plain then ({},4)
  else finN (sci && (decide (1 < sz.length) || decide (plain.head? = some 35))) (sigN plain sz sci me plus)
 else if !qBB h35 dg dg plain || !qBB dg h35 h35 frac then ({},4)
 else if !(incZ (plain++frac)).isEmpty && (decide (frac.countP dg < frac.length) || sci) then ({},6)
 else finN (sci && decide (1 < sz.length)) (digN plain frac sz sci me plus)
def pln (l:List Nat):List Nat:=l.filter fun c=>c != 44
def numW (whole frac:List Nat) (point:Bool) (sci:Bool) (me:Nat) (plus:Bool):NF × Nat:=
 if frac.any (· == 46) || (point && frac.isEmpty) then ({},4)
 else if frac.any (· == 44) then ({},5)
 else if decide (1 < (spl whole 0).length) && (spl whole 0).any (· == 0) then ({},5)
 else if (pln whole++frac).isEmpty then ({},4)
 else numP (pln whole) frac point (spl whole 0) sci me plus
def upA (c:Nat) (l:List Nat):List Nat:=l.takeWhile (· != c)
def dnA (c:Nat) (l:List Nat):List Nat:=(l.dropWhile (· != c)).drop 1
def numB (body:List Nat) (sci:Bool) (me:Nat) (plus:Bool):NF × Nat:=
 if !body.all okB then ({},4) else numW (upA 46 body) (dnA 46 body) (body.any (· == 46)) sci me plus
def numZ (l:List Nat):NF × Nat:=
 if l.any (· == 69) then
  if (expZ (dnA 69 l)).1≠0 then ({},(expZ (dnA 69 l)).1) else numB (upA 69 l) true (expZ (dnA 69 l)).2.1 (expZ (dnA 69 l)).2.2
 else numB (upA 69 l) false 0 false
structure OkN (p:NF):Prop where
 exp:(p.sci=true∧1≤p.minExp∧p.minExp≤9)∨(p.sci=false∧p.minExp=0∧p.plus=false)
 grp:(p.prim=0∧p.sec=0)∨(1≤p.prim∧1≤p.sec∧p.sci=false)
 big:bigN p=false
 kind:((1≤p.minSig∧p.minSig≤p.maxSig)∧p.minInt=0∧p.maxInt=0∧p.minFrac=0∧p.maxFrac=0∧p.inc=[]) ∨
  ((p.minSig=0∧p.maxSig=0)∧p.minFrac≤p.maxFrac∧((p.sci=true∧p.minInt≤p.maxInt∧0 < p.maxInt+p.maxFrac)∨(p.sci=false∧p.maxInt=0)) ∧
   (p.inc=[]∨(p.inc.length≤p.minInt+p.minFrac∧p.inc.all dg=true∧p.inc.head?≠some 48∧p.minFrac=p.maxFrac∧p.sci=false)))
def dgs (p:NF):List Nat:=List.replicate (p.minInt+p.minFrac - p.inc.length) 48++p.inc
def qCH (p:NF):List Nat:=(dgs p).take p.minInt++(List.replicate p.minSig 64++List.replicate (p.maxSig - p.minSig) 35)
def leastN (p:NF):Nat:=if p.sci && p.minSig == 0 then p.maxInt else if 0 < p.prim then p.prim+1+(if p.sec≠p.prim then p.sec else 0) else if p.maxFrac=0 then 1 else 0
def whl (p:NF) (m:Nat):List Nat:=(if p.sci then [] else List.replicate m 35)++(List.replicate (leastN p - (qCH p).length) 35++qCH p)
def cmZ (P S:Nat):List Nat→List Nat
 | []=>[]
 | c :: t=>(if 0 < P∧(t.length+1=P∨(S≠P∧t.length+1=P+S)) then [44] else [])++c :: cmZ P S t
def cmW (P S:Nat):List Nat→List Nat
 | []=>[]
 | c :: t=>c :: cmZ P S t
def frcN (p:NF):List Nat:=(dgs p).drop p.minInt++List.replicate (p.maxFrac - p.minFrac) 35
def expN (p:NF):List Nat:=(if p.plus then [43] else [])++List.replicate p.minExp 48
def prN (p:NF) (m:Nat):List Nat:=cmW p.prim p.sec (whl p m)++((if 0 < p.maxFrac then 46 :: frcN p else [])++(if p.sci then 69 :: expN p else []))
def okW (c:Nat):Bool:=h35 c || a64 c || dg c
theorem qJ8 {c:Nat} (h:okW c=true):c≠44∧c≠46∧c≠69:=by
 simp only [okW,h35,a64,dg,Bool.or_eq_true,Bool.and_eq_true,decide_eq_true_iff,beq_iff_eq] at h
 omega
theorem okW_okB {c:Nat} (h:okW c=true):okB c=true:=by
 simp only [okW,okB,Bool.or_eq_true] at h ⊢
 rcases h with (h | h) | h <;> simp [h]
theorem qI9 (S:Nat) (l:List Nat):cmZ 0 S l=l:=by
 induction l with
 | nil=>rfl
 | cons c t ih=>rw [cmZ,ih]; simp
theorem qBS {c:Nat} {l:List Nat} (h:c≠44):pln (c :: l)=c :: pln l:=by simp [pln,h]
theorem qG7 (l:List Nat):pln (44 :: l)=pln l:=by simp [pln]
theorem cmZ_pln (P S:Nat) {l:List Nat} (h:∀ c ∈ l,c≠44):pln (cmZ P S l)=l:=by
 induction l with
 | nil=>rfl
 | cons c t ih=>
  have ht:=ih fun x hx=>h x (List.mem_cons_of_mem _ hx)
  have hc:=h c (List.mem_cons_self ..);rw [cmZ]
  split
  · show pln (44 :: c :: cmZ P S t)=_
    rw [qG7,qBS hc,ht]
  · show pln (c :: cmZ P S t)=_
    rw [qBS hc,ht]
theorem cmW_pln (P S:Nat) {l:List Nat} (h:∀ c ∈ l,c≠44):pln (cmW P S l)=l:=by
 cases l with
 | nil=>rfl
 | cons c t=>rw [cmW,qBS (h c (List.mem_cons_self ..)),cmZ_pln P S fun x hx=>h x (List.mem_cons_of_mem _ hx)]
theorem cmZ_spl {P S:Nat} (hP:1≤P) (hS:1≤S) {l:List Nat} (h:∀ c ∈ l,c≠44):∀ k,spl (cmZ P S l) k =
 if l.length < P then [k+l.length] else if S=P∨l.length < P+S then [k+(l.length - P),P] else [k+(l.length - P - S),S,P]:=by
 induction l with
 | nil=>intro k; rw [if_pos (show ([]:List Nat).length < P from hP)]; rfl
 | cons c t ih=>
  intro k;have ht:=ih fun x hx=>h x (List.mem_cons_of_mem _ hx)
  have hc:=h c (List.mem_cons_self ..);rw [cmZ]
  by_cases hcm:0 < P∧(t.length+1=P∨(S≠P∧t.length+1=P+S))
  · rw [if_pos hcm]
    show spl (44 :: c :: cmZ P S t) k=_
    rw [spl,if_pos rfl,spl,if_neg hc,ht,List.length_cons]
    rcases hcm.2 with h1 | ⟨h1,h2⟩
    · rw [if_pos (by omega),if_neg (by omega),if_pos (by omega)]
      congr 1
      · omega
      · congr 1; omega
    · rw [if_neg (by omega),if_pos (by omega),if_neg (by omega),if_neg (by omega)]
      congr 1
      · omega
      · congr 1; omega
  · rw [if_neg hcm]
    show spl (c :: cmZ P S t) k=_
    rw [spl,if_neg hc,ht,List.length_cons]
    by_cases h1:t.length+1 < P
    · rw [if_pos (by omega),if_pos h1]; congr 1; omega
    · rw [if_neg h1]
      have h2:¬ t.length < P:=by omega
      rw [if_neg h2]
      by_cases h3:S=P∨t.length+1 < P+S
      · rw [if_pos h3,if_pos (by omega)]; congr 1; omega
      · rw [if_neg h3,if_neg (by omega)]; congr 1; omega
theorem qG8 {l:List Nat} (h:∀ c ∈ l,c≠44):∀ k,spl l k=[k+l.length]:=by
 induction l with
 | nil=>intro k; rfl
 | cons c t ih=>
  intro k;rw [spl,if_neg (h c (List.mem_cons_self ..)),ih (fun x hx=>h x (List.mem_cons_of_mem _ hx)),List.length_cons]
  congr 1; omega
theorem cmW_spl {P S:Nat} {l:List Nat} (h:∀ c ∈ l,c≠44) (hg:(P=0∧S=0)∨(1≤P∧1≤S)) (hl:0 < P→P+1+(if S≠P then S else 0)≤l.length) :
 primZ (spl (cmW P S l) 0)=P∧secZ (spl (cmW P S l) 0)=S∧(1 < (spl (cmW P S l) 0).length↔0 < P)∧(1 < (spl (cmW P S l) 0).length→(spl (cmW P S l) 0).any (· == 0)=false):=by
 rcases hg with ⟨rfl,rfl⟩ | ⟨hP,hS⟩
 · have e:cmW 0 0 l=l:=by cases l with
    | nil=>rfl
    | cons c t=>rw [cmW,qI9]
   rw [e,qG8 h];exact ⟨rfl,rfl,by simp,by simp⟩
 · have hl':=hl (by omega)
   cases l with
   | nil=>simp at hl'
   | cons c t=>
    rw [List.length_cons] at hl';rw [cmW,spl,if_neg (h c (List.mem_cons_self ..)),cmZ_spl hP hS (fun x hx=>h x (List.mem_cons_of_mem _ hx))]
    by_cases hSP:S=P
    · rw [if_neg (show ¬ S≠P from fun e=>e hSP)] at hl'
      rw [if_neg (by omega),if_pos (.inl hSP)];refine ⟨rfl,?_,by simp; omega,fun _=>?_⟩
      · subst hSP; rfl
      · simp; omega
    · rw [if_pos hSP] at hl'
      rw [if_neg (by omega),if_neg (by omega)];refine ⟨rfl,rfl,by simp; omega,fun _=>?_⟩;simp; omega
theorem qGV {mix:Bool} {q p:NF} (h:finN mix q=(p,0)):mix=false∧bigN q=false∧q=p:=by
 unfold finN at h
 cases mix
 · cases hb:bigN q
   · rw [hb] at h; exact ⟨rfl,rfl,(Prod.mk.inj h).1⟩
   · rw [hb] at h; exact absurd (Prod.mk.inj h).2 (by decide)
 · exact absurd (Prod.mk.inj h).2 (by decide)
theorem qHL {A B C:Nat→Bool} {l:List Nat} (h:qBB A B C l=true):∀ c ∈ l,A c=true∨B c=true∨C c=true:=by
 intro c hc
 rw [qBB,List.isEmpty_iff] at h
 rw [← List.takeWhile_append_dropWhile (p:=A) (l:=l)] at hc
 rcases List.mem_append.1 hc with hc | hc
 · exact .inl (List.all_eq_true.1 List.all_takeWhile c hc)
 · rw [← List.takeWhile_append_dropWhile (p:=B) (l:=l.dropWhile A)] at hc
   rcases List.mem_append.1 hc with hc | hc
   · exact .inr (.inl (List.all_eq_true.1 List.all_takeWhile c hc))
   · rw [← List.takeWhile_append_dropWhile (p:=C) (l:=(l.dropWhile A).dropWhile B),h,List.append_nil] at hc
     exact .inr (.inr (List.all_eq_true.1 List.all_takeWhile c hc))
theorem qG9 {A:Nat→Bool} (l:List Nat):∀ c,(l.dropWhile A).head? = some c→A c=false:=by
 induction l with
 | nil=>intro c h; cases h
 | cons x t ih=>
  intro c h;rw [List.dropWhile_cons] at h
  split at h
  · exact ih c h
  · rename_i hx
    cases h
    simpa using hx
theorem qEJ {l:List Nat} {k:Nat} (h:k < l.length):l.getD k 0 ∈ l:=by
 rw [List.getD,List.getElem?_eq_getElem h]; exact List.getElem_mem h
theorem sizes_ok {sz:List Nat} (h:1 < sz.length→sz.any (· == 0)=false):(¬ 1 < sz.length∧primZ sz=0∧secZ sz=0)∨(1 < sz.length∧1≤primZ sz∧1≤secZ sz):=by
 by_cases hl:1 < sz.length
 · right
   have hz:=h hl;have hp:∀ k,k < sz.length→1≤sz.getD k 0:=by
    intro k hk
    rcases Nat.eq_zero_or_pos (sz.getD k 0) with h0 | h0
    · have:=List.any_eq_false.1 hz _ (qEJ hk)
      rw [h0] at this;simp at this
    · exact h0
   refine ⟨hl,?_,?_⟩
   · rw [primZ,if_pos hl]; exact hp _ (by omega)
   · unfold secZ; split
     · exact hp _ (by omega)
     · rw [primZ,if_pos hl]; exact hp _ (by omega)
 · left
   refine ⟨hl,by rw [primZ,if_neg hl],?_⟩;rw [secZ,if_neg (by omega),primZ,if_neg hl]
theorem qFL {A B:Nat→Bool} (h:∀ c,B c=true→A c=false) (l:List Nat):l.countP A=(l.dropWhile B).countP A:=by
 conv=>lhs; rw [← List.takeWhile_append_dropWhile (p:=B) (l:=l),List.countP_append]
 rw [List.countP_eq_zero.2,Nat.zero_add]
 intro c hc
 rw [h c (List.all_eq_true.1 List.all_takeWhile c hc)]; decide
theorem h35_a64 (c:Nat) (h:h35 c=true):a64 c=false:=by
 simp only [h35,beq_iff_eq] at h
 subst h; rfl
theorem qLM {l:List Nat} (h:∀ c ∈ l,h35 c=true∨dg c=true):(l.filter fun c=>!h35 c)=l.filter dg:=by
 refine List.filter_congr fun c hc=>?_
 rcases h c hc with h1 | h1
 · have:c=35:=by simpa [h35] using h1
   subst this; rfl
 · rw [h1]
   have:¬ c=35:=by
    simp only [dg,Bool.and_eq_true,decide_eq_true_iff] at h1;omega
   simp [h35,this]
theorem qBK {A:Nat→Bool} {l:List Nat} (h:∀ c ∈ l,A c=false):l.any A=false:=by
 rw [List.any_eq_false]; intro c hc; rw [h c hc]; decide
theorem numP_ok {plain frac:List Nat} {point:Bool} {sz:List Nat} {sci:Bool} {me:Nat} {plus:Bool} {p:NF} (h:numP plain frac point sz sci me plus=(p,0)) (hsz:1 < sz.length→sz.any (· == 0)=false)
 (hne:plain++frac≠[]) (hpt:point=false→frac=[]) (hexp:(sci=true∧1≤me∧me≤9)∨(sci=false∧me=0∧plus=false)):OkN p:=by
 have hs:=sizes_ok hsz
 unfold numP at h
 cases ha:(plain++frac).any a64
 · rw [ha,if_neg (by decide)] at h
   cases hr:(!qBB h35 dg dg plain || !qBB dg h35 h35 frac)
   · rw [hr,if_neg (by decide)] at h
     cases hi:(!(incZ (plain++frac)).isEmpty && (decide (frac.countP dg < frac.length) || sci))
     · rw [hi,if_neg (by decide)] at h
       obtain ⟨hm,hb,rfl⟩:=qGV h;simp only [Bool.or_eq_false_iff,Bool.not_eq_false'] at hr;have hm1:=qHL hr.1;have hm2:=qHL hr.2;have hc1:plain.countP dg≤plain.length:=List.countP_le_length;have hc2:frac.countP dg≤frac.length:=List.countP_le_length;have hall:∀ c ∈ plain++frac,h35 c=true∨dg c=true:=by
        intro c hc
        rcases List.mem_append.1 hc with hc | hc
        · rcases hm1 c hc with h | h | h
          · exact .inl h
          · exact .inr h
          · exact .inr h
        · rcases hm2 c hc with h | h | h
          · exact .inr h
          · exact .inl h
          · exact .inl h
       have hne2:0 < plain.length+frac.length:=by
        rw [← List.length_append];exact List.length_pos_iff.2 hne
       refine ⟨hexp,?_,hb,.inr ⟨⟨rfl,rfl⟩,hc2,?_,?_⟩⟩
       · rcases hs with ⟨_,h1,h2⟩ | ⟨h0,h1,h2⟩
         · exact .inl ⟨h1,h2⟩
         · refine .inr ⟨h1,h2,?_⟩
           show sci=false
           rw [decide_eq_true h0,Bool.and_true] at hm;exact hm
       · cases sci
         · exact .inr ⟨rfl,rfl⟩
         · exact .inl ⟨rfl,hc1,hne2⟩
       · by_cases hinc:incZ (plain++frac)=[]
         · exact .inl hinc
         · right
           have hE:(incZ (plain++frac)).isEmpty=false:=by
            rw [Bool.eq_false_iff]; intro e; exact hinc (List.isEmpty_iff.1 e)
           rw [hE] at hi;simp only [Bool.not_false,Bool.true_and,Bool.or_eq_false_iff,decide_eq_false_iff_not] at hi;refine ⟨?_,?_,?_,?_,hi.2⟩
           · show (incZ (plain++frac)).length≤plain.countP dg+frac.countP dg
             rw [incZ,qLM hall,← List.countP_append,List.countP_eq_length_filter];exact (List.dropWhile_sublist _).length_le
           · show (incZ (plain++frac)).all dg=true
             rw [incZ,qLM hall];refine List.all_eq_true.2 fun c hc=>?_
             exact (List.mem_filter.1 ((List.dropWhile_sublist _).subset hc)).2
           · intro e
             have:=qG9 _ _ e;simp [z48] at this
           · show frac.countP dg=frac.length
             omega
     · rw [hi,if_pos rfl] at h; exact absurd (Prod.mk.inj h).2 (by decide)
   · rw [hr,if_pos rfl] at h; exact absurd (Prod.mk.inj h).2 (by decide)
 · rw [ha,if_pos rfl] at h
   cases hp:(point || plain.any dg)
   · rw [hp,if_neg (by decide)] at h
     simp only [Bool.or_eq_false_iff] at hp;have hf:=hpt hp.1;subst hf;rw [List.append_nil] at ha
     cases hr:qBB h35 a64 h35 plain
     · rw [hr] at h; exact absurd (Prod.mk.inj h).2 (by decide)
     · rw [hr] at h
       obtain ⟨hm,hb,rfl⟩:=qGV h;refine ⟨hexp,?_,hb,.inl ⟨⟨?_,?_⟩,rfl,rfl,rfl,rfl,rfl⟩⟩
       · rcases hs with ⟨_,h1,h2⟩ | ⟨h0,h1,h2⟩
         · exact .inl ⟨h1,h2⟩
         · refine .inr ⟨h1,h2,?_⟩
           show sci=false
           rw [decide_eq_true h0,Bool.true_or,Bool.and_true] at hm;exact hm
       · show 1≤plain.countP a64
         obtain ⟨c,hc,hac⟩:=List.any_eq_true.1 ha;exact List.countP_pos_iff.2 ⟨c,hc,hac⟩
       · show plain.countP a64≤(plain.dropWhile h35).length
         rw [qFL h35_a64];exact List.countP_le_length
   · rw [hp,if_pos rfl] at h; exact absurd (Prod.mk.inj h).2 (by decide)
theorem qIA {A:Nat→Bool} {l:List Nat} (h:∀ x ∈ l,A x=true):l.dropWhile A=[]:=by
 induction l with
 | nil=>rfl
 | cons x t ih=>rw [List.dropWhile_cons,if_pos (h x (List.mem_cons_self ..))]; exact ih fun y hy=>h y (List.mem_cons_of_mem _ hy)
theorem qDX {c:Nat} {l:List Nat} (h:l.any (· == c)=false):dnA c l=[]:=by
 rw [dnA,qIA]; rfl
 intro x hx
 have:=List.any_eq_false.1 h x hx
 simpa using this
theorem qGW {body:List Nat} {sci:Bool} {me:Nat} {plus:Bool} {p:NF} (h:numB body sci me plus=(p,0)) (hexp:(sci=true∧1≤me∧me≤9)∨(sci=false∧me=0∧plus=false)) :
 body.all okB=true∧numW (upA 46 body) (dnA 46 body) (body.any (· == 46)) sci me plus=(p,0)∧OkN p:=by
 unfold numB at h
 cases ho:body.all okB
 · rw [ho] at h; exact absurd (Prod.mk.inj h).2 (by decide)
 · rw [ho,if_neg (by decide)] at h
   refine ⟨rfl,h,?_⟩;unfold numW at h
   split at h
   · exact absurd (Prod.mk.inj h).2 (by decide)
   · split at h
     · exact absurd (Prod.mk.inj h).2 (by decide)
     · split at h
       · exact absurd (Prod.mk.inj h).2 (by decide)
       · rename_i hz
         split at h
         · exact absurd (Prod.mk.inj h).2 (by decide)
         · rename_i he
           refine numP_ok h (fun hl=>?_) (fun e=>he (by rw [e]; rfl)) qDX hexp;rw [decide_eq_true hl,Bool.true_and] at hz;exact Bool.eq_false_iff.2 hz
theorem qIB {e:List Nat} (h:(expZ e).1=0):1≤(expZ e).2.1∧(expZ e).2.1≤9:=by
 unfold expZ at h ⊢
 split at h
 · exact absurd h (by decide)
 · rename_i h1
   split at h
   · exact absurd h (by decide)
   · rename_i h2
     rw [if_neg h1,if_neg h2];simp only [Bool.or_eq_true,not_or] at h1;have:expT e≠[]:=fun e'=>h1.1 (by rw [e']; rfl)
     have:=List.length_pos_iff.2 this;exact ⟨this,Nat.le_of_not_lt h2⟩
theorem qLN {l:List Nat} {p:NF} (h:numZ l=(p,0)):OkN p:=by
 unfold numZ at h
 split at h
 · split at h
   · rename_i h1
     exact absurd (Prod.mk.inj h).2 h1
   · rename_i h1
     have h1:(expZ (dnA 69 l)).1=0:=Decidable.not_not.1 h1;exact (qGW h (.inl ⟨rfl,qIB h1⟩)).2.2
 · exact (qGW h (.inr ⟨rfl,rfl,rfl⟩)).2.2
theorem qKE {c:Nat} {a b:List Nat} (h:∀ x ∈ a,x≠c):upA c (a++c :: b)=a∧dnA c (a++c :: b)=b:=by
 have h':∀ x ∈ a,(x != c)=true:=fun x hx=>by simpa using h x hx
 constructor
 · rw [upA,List.takeWhile_append_of_pos h',List.takeWhile_cons_of_neg (by simp),List.append_nil]
 · rw [dnA,List.dropWhile_append_of_pos h',List.dropWhile_cons_of_neg (by simp)]; rfl
theorem tw_all {c:Nat} {a:List Nat} (h:∀ x ∈ a,x≠c):upA c a=a∧dnA c a=[]∧a.any (· == c)=false:=by
 have h':∀ x ∈ a,(x != c)=true:=fun x hx=>by simpa using h x hx
 refine ⟨?_,?_,qBK fun x hx=>by simpa using h x hx⟩
 · have:=List.takeWhile_append_of_pos (l₂:=[]) h'
   simpa [upA] using this
 · rw [dnA,qIA h']; rfl
theorem expZ_exp {p:NF} (h1:1≤p.minExp) (h9:p.minExp≤9):expZ (expN p)=(0,p.minExp,p.plus):=by
 have ht:expT (expN p)=List.replicate p.minExp 48∧decide ((expN p).head? = some 43)=p.plus:=by
  unfold expT expN;obtain ⟨k,hk⟩:∃ k,p.minExp=k+1:=⟨p.minExp - 1,by omega⟩;rw [hk]
  cases p.plus
  · simp [List.replicate_succ]
  · simp
 rw [expZ,ht.1,ht.2]
 have ha:(List.replicate p.minExp 48).all z48=true:=by rw [List.all_replicate]; simp [z48]
 have he:(List.replicate p.minExp 48).isEmpty=false:=by
  rw [Bool.eq_false_iff,ne_eq,List.isEmpty_iff];intro e;have:=congrArg List.length e;rw [List.length_replicate] at this;simp at this; omega
 rw [ha,he,if_neg (by decide),List.length_replicate,if_neg (by omega)]
theorem qGX {p:NF} (h:p.inc.length≤p.minInt+p.minFrac):(dgs p).length=p.minInt+p.minFrac:=by
 rw [dgs,List.length_append,List.length_replicate]; omega
theorem qLO {p:NF} (h:p.inc.all dg=true):∀ c ∈ dgs p,dg c=true:=by
 intro c hc
 rcases List.mem_append.1 hc with hc | hc
 · rw [(List.mem_replicate.1 hc).2]; rfl
 · exact List.all_eq_true.1 h c hc
theorem OkN.incs {p:NF} (h:OkN p):p.inc.length≤p.minInt+p.minFrac∧p.inc.all dg=true:=by
 rcases h.kind with ⟨_,_,_,_,_,h5⟩ | ⟨_,_,_,h4⟩
 · rw [h5]; exact ⟨Nat.zero_le _,rfl⟩
 · rcases h4 with h4 | ⟨h4,h5,_⟩
   · rw [h4]; exact ⟨Nat.zero_le _,rfl⟩
   · exact ⟨h4,h5⟩
theorem dg_okW {c:Nat} (h:dg c=true):okW c=true:=by simp [okW,h]
theorem qJ9 {p:NF} (h:OkN p) (m:Nat):∀ c ∈ whl p m,okW c=true:=by
 have hd:=qLO h.incs.2
 intro c hc
 unfold whl qCH at hc
 simp only [List.mem_append] at hc
 rcases hc with hc | hc | hc | hc | hc
 · split at hc
   · cases hc
   · rw [(List.mem_replicate.1 hc).2]; rfl
 · rw [(List.mem_replicate.1 hc).2]; rfl
 · exact dg_okW (hd c (List.mem_of_mem_take hc))
 · rw [(List.mem_replicate.1 hc).2]; rfl
 · rw [(List.mem_replicate.1 hc).2]; rfl
theorem frc_ok {p:NF} (h:OkN p):∀ c ∈ frcN p,dg c=true∨h35 c=true:=by
 have hd:=qLO h.incs.2
 intro c hc
 rcases List.mem_append.1 hc with hc | hc
 · exact .inl (hd c (List.mem_of_mem_drop hc))
 · rw [(List.mem_replicate.1 hc).2]; exact .inr rfl
theorem qFM {p:NF} (h:OkN p):(frcN p).length=p.maxFrac:=by
 rw [frcN,List.length_append,List.length_drop,qGX h.incs.1,List.length_replicate]
 rcases h.kind with ⟨_,_,_,h3,h4,_⟩ | ⟨_,h2,_,_⟩ <;> omega
theorem cmZ_mem (P S:Nat) {l:List Nat}:∀ c ∈ cmZ P S l,c=44∨c ∈ l:=by
 induction l with
 | nil=>intro c hc; cases hc
 | cons x t ih=>
  intro c hc;rw [cmZ] at hc
  rcases List.mem_append.1 hc with hc | hc
  · split at hc
    · exact .inl (List.mem_singleton.1 hc)
    · cases hc
  · rcases List.mem_cons.1 hc with rfl | hc
    · exact .inr (List.mem_cons_self ..)
    · rcases ih c hc with h | h
      · exact .inl h
      · exact .inr (List.mem_cons_of_mem _ h)
theorem cmW_mem (P S:Nat) {l:List Nat}:∀ c ∈ cmW P S l,c=44∨c ∈ l:=by
 cases l with
 | nil=>intro c hc; cases hc
 | cons x t=>
  intro c hc
  rcases List.mem_cons.1 hc with rfl | hc
  · exact .inr (List.mem_cons_self ..)
  · rcases cmZ_mem P S c hc with h | h
    · exact .inl h
    · exact .inr (List.mem_cons_of_mem _ h)
theorem qF3 {p:NF} (h:OkN p):(qCH p).length=p.minInt+p.maxSig:=by
 rw [qCH,List.length_append,List.length_append,List.length_replicate,List.length_replicate,List.length_take,qGX h.incs.1]
 rcases h.kind with ⟨⟨_,h2⟩,_⟩ | ⟨⟨h1,h2⟩,_⟩ <;> omega
theorem qFN {p:NF} (h:OkN p) (m:Nat):(whl p m).length=(if p.sci then 0 else m)+max (leastN p) (p.minInt+p.maxSig):=by
 rw [whl,List.length_append,List.length_append,List.length_replicate,qF3 h]
 cases p.sci
 · simp only [Bool.false_eq_true,if_false,List.length_replicate]; omega
 · simp only [if_true,List.length_nil]; omega
theorem qKF {p:NF} (h:OkN p) (m:Nat) (hp:0 < p.prim):p.prim+1+(if p.sec≠p.prim then p.sec else 0)≤(whl p m).length:=by
 have hs:p.sci=false:=by
  rcases h.grp with ⟨h1,_⟩ | ⟨_,_,h3⟩
  · omega
  · exact h3
 have hl:leastN p=p.prim+1+(if p.sec≠p.prim then p.sec else 0):=by
  rw [leastN,hs,Bool.false_and,if_neg (by decide),if_pos hp]
 rw [qFN h,hl]; omega
theorem whl_pos {p:NF} (h:OkN p) (m:Nat) (hf:p.maxFrac=0):0 < (whl p m).length:=by
 rw [qFN h]
 rcases h.kind with ⟨⟨h1,h2⟩,_⟩ | ⟨⟨h1,h2⟩,_,h4,_⟩
 · omega
 · rcases h4 with ⟨h5,h6,h7⟩ | ⟨h5,_⟩
   · have hl:leastN p=p.maxInt:=by rw [leastN,h5,h1]; rfl
     omega
   · have hl:0 < leastN p:=by
      rw [leastN,h5,Bool.false_and,if_neg (by decide)]
      split
      · omega
      · decide
     omega
theorem whl_form (p:NF) (m:Nat):∃ a,whl p m=List.replicate a 35++qCH p∧(p.sci=true→a=leastN p - (qCH p).length):=by
 rw [whl]
 cases p.sci
 · refine ⟨m+(leastN p - (qCH p).length),?_,fun e=>by cases e⟩
   rw [if_neg (by decide),← List.append_assoc,List.replicate_append_replicate]
 · exact ⟨_,rfl,fun _=>rfl⟩
theorem qH6 {A:Nat→Bool} {a b:List Nat} (h:∀ x ∈ a,A x=true):(a++b).dropWhile A=b.dropWhile A:=List.dropWhile_append_of_pos h
theorem qDY {A:Nat→Bool} {l:List Nat} (h:∀ c,l.head? = some c→A c=false):l.dropWhile A=l:=by
 cases l with
 | nil=>rfl
 | cons x t=>rw [List.dropWhile_cons_of_neg]; rw [h x rfl]; decide
theorem qFO {A:Nat→Bool} {c:Nat} (n:Nat) (h:A c=true):∀ x ∈ List.replicate n c,A x=true:=fun x hx=>by rw [(List.mem_replicate.1 hx).2]; exact h
theorem qCE {A:Nat→Bool} {l:List Nat} (h:∀ x ∈ l,A x=true):l.countP A=l.length:=List.countP_eq_length.2 h
theorem qDJ {A:Nat→Bool} {l:List Nat} (h:∀ x ∈ l,A x=false):l.countP A=0:=List.countP_eq_zero.2 fun x hx=>by rw [h x hx]; decide
theorem qH7 {c:Nat} (h:dg c=true):h35 c=false∧a64 c=false:=by
 simp only [dg,Bool.and_eq_true,decide_eq_true_iff] at h
 constructor
 · simp only [h35,beq_eq_false_iff_ne]; omega
 · simp only [a64,beq_eq_false_iff_ne]; omega
theorem numP_sig {p:NF} (h:OkN p) (hk:(1≤p.minSig∧p.minSig≤p.maxSig)∧p.minInt=0∧p.maxInt=0∧p.minFrac=0∧p.maxFrac=0∧p.inc=[]) (m:Nat) {sz:List Nat} (h1:primZ sz=p.prim) (h2:secZ sz=p.sec)
 (h3:1 < sz.length↔0 < p.prim):numP (whl p m) [] false sz p.sci p.minExp p.plus=(p,0):=by
 obtain ⟨⟨k1,k2⟩,k3,k4,k5,k6,k7⟩:=hk
 obtain ⟨a,ha,hsa⟩:=whl_form p m
 have hb:qCH p=List.replicate p.minSig 64++List.replicate (p.maxSig - p.minSig) 35:=by rw [qCH,k3,List.take_zero,List.nil_append]
 obtain ⟨s,hs⟩:∃ s,p.minSig=s+1:=⟨p.minSig - 1,by omega⟩
 have hhd:∀ c,(qCH p).head? = some c→c=64:=by
  intro c hc;rw [hb,hs,List.replicate_succ,List.cons_append,List.head?_cons] at hc
  cases hc; rfl
 have hdw:(whl p m).dropWhile h35=qCH p:=by
  rw [ha,qH6 (qFO a rfl)];exact qDY fun c hc=>by rw [hhd c hc]; rfl
 have hany:((whl p m)++[]).any a64=true:=by
  rw [List.append_nil,ha,hb];refine List.any_eq_true.2 ⟨64,?_,rfl⟩;simp only [List.mem_append];exact .inr (.inl (List.mem_replicate.2 ⟨by omega,rfl⟩))
 have hdg:(whl p m).any dg=false:=by
  rw [ha,hb];refine qBK fun c hc=>?_
  simp only [List.mem_append] at hc
  rcases hc with hc | hc | hc <;> rw [(List.mem_replicate.1 hc).2] <;> rfl
 have hr:qBB h35 a64 h35 (whl p m)=true:=by
  rw [qBB,hdw,hb,qH6 (qFO _ rfl)];rw [qDY (l:=List.replicate (p.maxSig - p.minSig) 35) (A:=a64) (fun c hc=>by
   have:=List.mem_of_mem_head? (Option.mem_def.2 hc);rw [(List.mem_replicate.1 this).2]; rfl)]
  rw [qIA (qFO _ rfl)]; rfl
 have hcnt:(whl p m).countP a64=p.minSig:=by
  rw [ha,hb,List.countP_append,List.countP_append,qDJ (fun x hx=>by rw [(List.mem_replicate.1 hx).2]; rfl),qCE (qFO _ rfl),qDJ (fun x hx=>by rw [(List.mem_replicate.1 hx).2]; rfl),List.length_replicate]; omega
 have hlen:((whl p m).dropWhile h35).length=p.maxSig:=by
  rw [hdw,hb,List.length_append,List.length_replicate,List.length_replicate]; omega
 have hmix:(p.sci && (decide (1 < sz.length) || decide ((whl p m).head? = some 35)))=false:=by
  cases hsc:p.sci
  · rfl
  · have hpr:p.prim=0:=by
     rcases h.grp with ⟨g,_⟩ | ⟨_,_,g⟩
     · exact g
     · rw [hsc] at g; cases g
    have hl1:leastN p=1:=by
     rw [leastN,hsc,hs,hpr,k6]; rfl
    have ha0:a=0:=by
     rw [hsa hsc,hl1,qF3 h]; omega
    have hh:¬ (whl p m).head? = some 35:=by
     intro e;rw [ha,ha0] at e;have:=hhd 35 e;omega
    rw [decide_eq_false (by rw [h3]; omega),decide_eq_false hh]; rfl
 rw [numP,if_pos hany,hdg,Bool.or_self,if_neg (by decide),hr,if_neg (by decide),hmix]
 have hq:sigN (whl p m) sz p.sci p.minExp p.plus=p:=by
  rw [sigN,hcnt,hlen,h1,h2]
  cases p
  simp_all
 rw [hq,finN,if_neg (by decide),h.big,if_neg (by decide)]
theorem numP_dig {p:NF} (h:OkN p) (k1:p.minSig=0∧p.maxSig=0) (k2:p.minFrac≤p.maxFrac) (k3:(p.sci=true∧p.minInt≤p.maxInt∧0 < p.maxInt+p.maxFrac)∨(p.sci=false∧p.maxInt=0))
 (k4:p.inc=[]∨(p.inc.length≤p.minInt+p.minFrac∧p.inc.all dg=true∧p.inc.head?≠some 48∧p.minFrac=p.maxFrac∧p.sci=false)) (m:Nat) (pt:Bool) {sz:List Nat} (h1:primZ sz=p.prim) (h2:secZ sz=p.sec)
 (h3:1 < sz.length↔0 < p.prim):numP (whl p m) (frcN p) pt sz p.sci p.minExp p.plus=(p,0):=by
 obtain ⟨a,ha,hsa⟩:=whl_form p m
 have hinc:=h.incs
 have hd:=qLO hinc.2
 have hb:qCH p=(dgs p).take p.minInt:=by rw [qCH,k1.1,k1.2]; simp
 have hdt:∀ c ∈ (dgs p).take p.minInt,dg c=true:=fun c hc=>hd c (List.mem_of_mem_take hc)
 have hdd:∀ c ∈ (dgs p).drop p.minInt,dg c=true:=fun c hc=>hd c (List.mem_of_mem_drop hc)
 have hany:(whl p m++frcN p).any a64=false:=by
  refine qBK fun c hc=>?_
  rw [ha,hb,frcN] at hc;simp only [List.mem_append] at hc
  rcases hc with (hc | hc) | hc | hc
  · rw [(List.mem_replicate.1 hc).2]; rfl
  · exact (qH7 (hdt c hc)).2
  · exact (qH7 (hdd c hc)).2
  · rw [(List.mem_replicate.1 hc).2]; rfl
 have hhead:∀ c,((dgs p).take p.minInt).head? = some c→h35 c=false:=fun c hc=>(qH7 (hdt c (List.mem_of_mem_head? (Option.mem_def.2 hc)))).1
 have hr1:qBB h35 dg dg (whl p m)=true:=by
  rw [qBB,ha,hb,qH6 (qFO a rfl),qDY hhead,qIA hdt]; rfl
 have hr2:qBB dg h35 h35 (frcN p)=true:=by
  rw [qBB,frcN,qH6 hdd,qDY (l:=List.replicate (p.maxFrac - p.minFrac) 35) (A:=dg) (fun c hc=>by
   have:=List.mem_of_mem_head? (Option.mem_def.2 hc);rw [(List.mem_replicate.1 this).2]; rfl),qIA (qFO _ rfl)]; rfl
 have hinc2:incZ (whl p m++frcN p)=p.inc:=by
  have hf:∀ n,(List.replicate n 35).filter (fun c=>!h35 c)=[]:=fun n=>List.filter_eq_nil_iff.2 fun x hx=>by rw [(List.mem_replicate.1 hx).2]; decide
  have hg:∀ l:List Nat,(∀ c ∈ l,dg c=true)→l.filter (fun c=>!h35 c)=l:=fun l hl=>List.filter_eq_self.2 fun x hx=>by rw [(qH7 (hl x hx)).1]; rfl
  rw [incZ,ha,hb,frcN,List.filter_append,List.filter_append,List.filter_append,hf,hf,hg _ hdt,hg _ hdd,List.nil_append,List.append_nil,List.take_append_drop,dgs,qH6 (qFO _ rfl)];refine qDY fun c hc=>?_
  rcases k4 with k4 | ⟨_,_,k5,_⟩
  · rw [k4] at hc; cases hc
  · rw [hc] at k5
    simp only [z48,beq_eq_false_iff_ne];exact fun e=>k5 (by rw [e])
 have hc1:(whl p m).countP dg=p.minInt:=by
  rw [ha,hb,List.countP_append,qDJ (fun x hx=>by rw [(List.mem_replicate.1 hx).2]; rfl),qCE hdt,List.length_take,qGX hinc.1]; omega
 have hc2:(frcN p).countP dg=p.minFrac:=by
  rw [frcN,List.countP_append,qCE hdd,qDJ (fun x hx=>by rw [(List.mem_replicate.1 hx).2]; rfl),List.length_drop,qGX hinc.1]; omega
 have hml:(if p.sci=true then (whl p m).length else 0)=p.maxInt:=by
  rcases k3 with ⟨s,s2,_⟩ | ⟨s,s2⟩
  · rw [s,if_pos rfl,qFN h,s,if_pos rfl,k1.2]
    have hl:leastN p=p.maxInt:=by rw [leastN,s,k1.1]; rfl
    rw [hl]; omega
  · rw [s,if_neg (by decide),s2]
 have hmix:(!(incZ (whl p m++frcN p)).isEmpty && (decide ((frcN p).countP dg < (frcN p).length) || p.sci))=false:=by
  rw [hinc2,hc2,qFM h]
  rcases k4 with k4 | ⟨_,_,_,k5,k6⟩
  · rw [k4]; rfl
  · rw [k6,decide_eq_false (by omega)]; simp
 have hmix2:(p.sci && decide (1 < sz.length))=false:=by
  cases hsc:p.sci
  · rfl
  · have hpr:p.prim=0:=by
     rcases h.grp with ⟨g,_⟩ | ⟨_,_,g⟩
     · exact g
     · rw [hsc] at g; cases g
    rw [decide_eq_false (by rw [h3]; omega)]; rfl
 have hq:digN (whl p m) (frcN p) sz p.sci p.minExp p.plus=p:=by
  rw [digN,hc1,hc2,h1,h2,hinc2,hml,qFM h];obtain ⟨e1,e2⟩:=k1
  cases p
  simp_all
 rw [numP,hany,if_neg (by decide),hr1,hr2,if_neg (by decide),hmix,if_neg (by decide),hmix2,hq,finN,if_neg (by decide),h.big,if_neg (by decide)]
theorem dg_ne {c:Nat} (h:dg c=true∨h35 c=true):c≠44∧c≠46∧c≠69:=by
 rcases h with h | h
 · exact qJ8 (by simp [okW,h])
 · exact qJ8 (by simp [okW,h])
theorem numB_back {p:NF} (h:OkN p) (m:Nat):numB (cmW p.prim p.sec (whl p m)++(if 0 < p.maxFrac then 46 :: frcN p else [])) p.sci p.minExp p.plus=(p,0):=by
 have hW:=qJ9 h m
 have hF:=frc_ok h
 have hFl:=qFM h
 have hC:∀ c ∈ cmW p.prim p.sec (whl p m),okB c=true∧c≠46:=by
  intro c hc
  rcases cmW_mem _ _ c hc with rfl | hc
  · exact ⟨rfl,by decide⟩
  · exact ⟨okW_okB (hW c hc),(qJ8 (hW c hc)).2.1⟩
 have hFB:∀ c ∈ frcN p,okB c=true:=by
  intro c hc
  rcases hF c hc with h | h <;> simp [okB,h]
 have hall:(cmW p.prim p.sec (whl p m)++(if 0 < p.maxFrac then 46 :: frcN p else [])).all okB=true:=by
  refine List.all_eq_true.2 fun c hc=>?_
  rcases List.mem_append.1 hc with hc | hc
  · exact (hC c hc).1
  · split at hc
    · rcases List.mem_cons.1 hc with rfl | hc
      · rfl
      · exact hFB c hc
    · cases hc
 have hcut:upA 46 (cmW p.prim p.sec (whl p m)++(if 0 < p.maxFrac then 46 :: frcN p else []))=cmW p.prim p.sec (whl p m)∧dnA 46 (cmW p.prim p.sec (whl p m)++(if 0 < p.maxFrac then 46 :: frcN p else []))=frcN p ∧
  (cmW p.prim p.sec (whl p m)++(if 0 < p.maxFrac then 46 :: frcN p else [])).any (· == 46)=decide (0 < p.maxFrac):=by
  by_cases hf:0 < p.maxFrac
  · rw [if_pos hf,decide_eq_true hf]
    obtain ⟨c1,c2⟩:=qKE (b:=frcN p) fun x hx=>(hC x hx).2
    exact ⟨c1,c2,List.any_eq_true.2 ⟨46,by simp,rfl⟩⟩
  · rw [if_neg hf,decide_eq_false hf,List.append_nil]
    obtain ⟨c1,c2,c3⟩:=tw_all fun x hx=>(hC x hx).2
    refine ⟨c1,?_,c3⟩;rw [c2];exact (List.eq_nil_of_length_eq_zero (by omega)).symm
 have hN:∀ c ∈ whl p m,c≠44:=fun c hc=>(qJ8 (hW c hc)).1
 obtain ⟨s1,s2,s3,s4⟩:=cmW_spl (P:=p.prim) (S:=p.sec) hN (by
  rcases h.grp with g | ⟨g1,g2,_⟩
  · exact .inl g
  · exact .inr ⟨g1,g2⟩) (qKF h m)
 rw [numB,hall,if_neg (by decide),hcut.1,hcut.2.1,hcut.2.2,numW]
 rw [qBK (A:=(· == 46)) (fun c hc=>by simpa using (dg_ne (hF c hc)).2.1),Bool.false_or]
 have hpe:(decide (0 < p.maxFrac) && (frcN p).isEmpty)=false:=by
  by_cases hf:0 < p.maxFrac
  · have:(frcN p).isEmpty=false:=by
     rw [Bool.eq_false_iff,ne_eq,List.isEmpty_iff];intro e;rw [e] at hFl;simp at hFl; omega
    rw [this,Bool.and_false]
  · rw [decide_eq_false hf]; rfl
 rw [hpe,if_neg (by decide),qBK (A:=(· == 44)) (fun c hc=>by simpa using (dg_ne (hF c hc)).1),if_neg (by decide)]
 have hz:(decide (1 < (spl (cmW p.prim p.sec (whl p m)) 0).length) && (spl (cmW p.prim p.sec (whl p m)) 0).any (· == 0))=false:=by
  by_cases hl:1 < (spl (cmW p.prim p.sec (whl p m)) 0).length
  · rw [s4 hl,Bool.and_false]
  · rw [decide_eq_false hl]; rfl
 rw [hz,if_neg (by decide),cmW_pln _ _ hN]
 have hne:(whl p m++frcN p).isEmpty=false:=by
  rw [Bool.eq_false_iff,ne_eq,List.isEmpty_iff];intro e;have el:=congrArg List.length e;rw [List.length_append,hFl,List.length_nil] at el;have:=whl_pos h m (by omega);omega
 rw [hne,if_neg (by decide)]
 rcases h.kind with hk | ⟨k1,k2,k3,k4⟩
 · have hf:frcN p=[]:=List.eq_nil_of_length_eq_zero (by rw [hFl]; exact hk.2.2.2.2.1)
   rw [hf,hk.2.2.2.2.1];exact numP_sig h hk m s1 s2 s3
 · exact numP_dig h k1 k2 k3 k4 m _ s1 s2 s3
theorem num_back {p:NF} (h:OkN p) (m:Nat):numZ (prN p m)=(p,0):=by
 have hB:=numB_back h m
 have h69:∀ c ∈ cmW p.prim p.sec (whl p m)++(if 0 < p.maxFrac then 46 :: frcN p else []),c≠69:=by
  intro c hc
  rcases List.mem_append.1 hc with hc | hc
  · rcases cmW_mem _ _ c hc with rfl | hc
    · decide
    · exact (qJ8 (qJ9 h m c hc)).2.2
  · split at hc
    · rcases List.mem_cons.1 hc with rfl | hc
      · decide
      · exact (dg_ne (frc_ok h c hc)).2.2
    · cases hc
 rw [prN,← List.append_assoc]
 generalize cmW p.prim p.sec (whl p m)++(if 0 < p.maxFrac then 46 :: frcN p else [])=B at *
 rcases h.exp with ⟨hs,he1,he9⟩ | ⟨hs,he,hp⟩
 · rw [hs,if_pos rfl]
   rw [hs] at hB;obtain ⟨c1,c2⟩:=qKE (b:=expN p) h69;have ha:(B++69 :: expN p).any (· == 69)=true:=List.any_eq_true.2 ⟨69,by simp,rfl⟩;rw [numZ,if_pos ha,c2,c1,expZ_exp he1 he9,if_neg (fun e=>e rfl)];exact hB
 · rw [hs,if_neg (by decide),List.append_nil]
   rw [hs,he,hp] at hB;obtain ⟨c1,_,c3⟩:=tw_all h69;rw [numZ,c3,if_neg (by decide),c1];exact hB
theorem qLP {plain frac:List Nat} {point:Bool} {sz:List Nat} {sci:Bool} {me:Nat} {plus:Bool} {p:NF} (h:numP plain frac point sz sci me plus=(p,0)) :
 (point=false∧p=sigN plain sz sci me plus)∨p=digN plain frac sz sci me plus:=by
 unfold numP at h
 split at h
 · split at h
   · exact absurd (Prod.mk.inj h).2 (by decide)
   · rename_i hp
     split at h
     · exact absurd (Prod.mk.inj h).2 (by decide)
     · refine .inl ⟨?_,(qGV h).2.2.symm⟩
       cases point
       · rfl
       · exact absurd (by simp) hp
 · split at h
   · exact absurd (Prod.mk.inj h).2 (by decide)
   · split at h
     · exact absurd (Prod.mk.inj h).2 (by decide)
     · exact .inr (qGV h).2.2.symm
theorem qGA {whole frac:List Nat} {point:Bool} {sci:Bool} {me:Nat} {plus:Bool} {p:NF} (h:numW whole frac point sci me plus=(p,0)) :
 (1 < (spl whole 0).length→(spl whole 0).any (· == 0)=false)∧pln whole++frac≠[]∧numP (pln whole) frac point (spl whole 0) sci me plus=(p,0):=by
 unfold numW at h
 split at h
 · exact absurd (Prod.mk.inj h).2 (by decide)
 · split at h
   · exact absurd (Prod.mk.inj h).2 (by decide)
   · split at h
     · exact absurd (Prod.mk.inj h).2 (by decide)
     · rename_i hz
       split at h
       · exact absurd (Prod.mk.inj h).2 (by decide)
       · rename_i he
         refine ⟨fun hl=>?_,fun e=>he (by rw [e]; rfl),h⟩;rw [decide_eq_true hl,Bool.true_and] at hz;exact Bool.eq_false_iff.2 hz
theorem qKG (l:List Nat):∀ k,l.length+1=(pln l).length+(spl l k).length:=by
 induction l with
 | nil=>intro k; rfl
 | cons c t ih=>
  intro k
  by_cases hc:c=44
  · subst hc
    rw [qG7,spl,if_pos rfl,List.length_cons,List.length_cons,ih 0]; omega
  · rw [qBS hc,spl,if_neg hc,List.length_cons,List.length_cons,ih (k+1)]; omega
theorem qGY (l:List Nat):∀ k,1≤(spl l k).length:=by
 induction l with
 | nil=>intro k; exact Nat.le_refl _
 | cons c t ih=>
  intro k;rw [spl]; split
  · rw [List.length_cons]; omega
  · exact ih _
theorem spl_sum (l:List Nat):∀ k,(spl l k).sum=(pln l).length+k:=by
 induction l with
 | nil=>intro k; simp [spl,pln]
 | cons c t ih=>
  intro k
  by_cases hc:c=44
  · subst hc
    rw [qG7,spl,if_pos rfl,List.sum_cons,ih 0]; omega
  · rw [qBS hc,spl,if_neg hc,List.length_cons,ih (k+1)]; omega
theorem sum_three (sz:List Nat):(∀ x ∈ sz,1≤x)→3≤sz.length→sz.getD (sz.length - 1) 0+sz.getD (sz.length - 2) 0+1≤sz.sum:=by
 induction sz with
 | nil=>intro _ h; simp at h
 | cons x t ih=>
  intro hx hl;have hx0:=hx x (List.mem_cons_self ..);have ht:=fun y hy=>hx y (List.mem_cons_of_mem _ hy)
  rw [List.length_cons] at hl ⊢
  by_cases h3:3≤t.length
  · have:=ih ht h3
    obtain ⟨n,hn⟩:∃ n,t.length=n+3:=⟨t.length - 3,by omega⟩;rw [hn] at this ⊢;rw [List.sum_cons,show n+3+1 - 1=(n+2)+1 by omega,show n+3+1 - 2=(n+1)+1 by omega,List.getD_cons_succ,List.getD_cons_succ];rw [show n+3 - 1=n+2 by omega,show n+3 - 2=n+1 by omega] at this;omega
  · obtain ⟨a,b,rfl⟩:∃ a b,t=[a,b]:=by
     match t,hl,h3 with
     | [a,b],_,_=>exact ⟨a,b,rfl⟩
     | [],hl,_=>simp at hl
     | [a],hl,_=>simp at hl
     | _ :: _ :: _ :: _,_,h3=>simp at h3
    simp [List.getD,List.sum_cons];omega
theorem qFP {sz:List Nat} (h:1 < sz.length→sz.any (· == 0)=false) (hp:0 < primZ sz) :
 primZ sz+1+(if secZ sz≠primZ sz then secZ sz else 0)≤sz.sum∧2≤sz.length∧(secZ sz≠primZ sz→3≤sz.length):=by
 have hl:1 < sz.length:=by
  rcases Nat.lt_or_ge 1 sz.length with h1 | h1
  · exact h1
  · rw [primZ,if_neg (by omega)] at hp; omega
 have h1:∀ x ∈ sz,1≤x:=by
  intro x hx;have:=List.any_eq_false.1 (h hl) x hx
  rcases Nat.eq_zero_or_pos x with h0 | h0
  · rw [h0] at this; simp at this
  · exact h0
 by_cases h3:3≤sz.length
 · have:=sum_three sz h1 h3
   have e1:primZ sz=sz.getD (sz.length - 1) 0:=by rw [primZ,if_pos hl]
   have e2:secZ sz=sz.getD (sz.length - 2) 0:=by rw [secZ,if_pos (by omega)]
   rw [e1,e2];refine ⟨?_,by omega,fun _=>h3⟩
   split <;> omega
 · have e:secZ sz=primZ sz:=by rw [secZ,if_neg (by omega)]
   obtain ⟨a,b,rfl⟩:∃ a b,sz=[a,b]:=by
    match sz,hl,h3 with
    | [a,b],_,_=>exact ⟨a,b,rfl⟩
    | [],hl,_=>simp at hl
    | [a],hl,_=>simp at hl
    | _ :: _ :: _ :: _,_,h3=>simp at h3
   rw [e,if_neg (by simp)];have:=h1 a (by simp);refine ⟨?_,by simp,fun h=>absurd rfl h⟩
   show b+1+0≤_
   simp; omega
theorem cmW_sz {P S:Nat} {l:List Nat} (h:∀ c ∈ l,c≠44) (hg:(P=0∧S=0)∨(1≤P∧1≤S)) (hl:0 < P→P+1+(if S≠P then S else 0)≤l.length) :
 (spl (cmW P S l) 0).length=if P=0 then 1 else if S=P then 2 else 3:=by
 rcases hg with ⟨rfl,rfl⟩ | ⟨hP,hS⟩
 · have e:cmW 0 0 l=l:=by cases l with
    | nil=>rfl
    | cons c t=>rw [cmW,qI9]
   rw [e,qG8 h]; rfl
 · have hl':=hl (by omega)
   rw [if_neg (by omega)]
   cases l with
   | nil=>simp at hl'
   | cons c t=>
    rw [List.length_cons] at hl';rw [cmW,spl,if_neg (h c (List.mem_cons_self ..)),cmZ_spl hP hS (fun x hx=>h x (List.mem_cons_of_mem _ hx))]
    by_cases hSP:S=P
    · rw [if_neg (show ¬ S≠P from fun e=>e hSP)] at hl'
      rw [if_neg (by omega),if_pos (.inl hSP),if_pos hSP]; rfl
    · rw [if_pos hSP] at hl'
      rw [if_neg (by omega),if_neg (by omega),if_neg hSP]; rfl
theorem OkN.groups {p:NF} (h:OkN p):(p.prim=0∧p.sec=0)∨(1≤p.prim∧1≤p.sec):=by
 rcases h.grp with g | ⟨g1,g2,_⟩
 · exact .inl g
 · exact .inr ⟨g1,g2⟩
theorem whlC_len {p:NF} (h:OkN p) (m:Nat):(cmW p.prim p.sec (whl p m)).length+1=(whl p m).length+(if p.prim=0 then 1 else if p.sec=p.prim then 2 else 3):=by
 have hN:∀ c ∈ whl p m,c≠44:=fun c hc=>(qJ8 (qJ9 h m c hc)).1
 have:=qKG (cmW p.prim p.sec (whl p m)) 0
 rw [cmW_pln _ _ hN,cmW_sz hN h.groups (qKF h m)] at this
 exact this
theorem qFQ {p:NF} (h:OkN p) (m:Nat):(prN p m).length+1=(if p.sci then 0 else m)+max (leastN p) (p.minInt+p.maxSig)+(if p.prim=0 then 1 else if p.sec=p.prim then 2 else 3) +
 (if 0 < p.maxFrac then 1+p.maxFrac else 0)+(if p.sci then 1+((if p.plus then 1 else 0)+p.minExp) else 0):=by
 have h1:=whlC_len h m
 rw [qFN h] at h1
 have h2:(if 0 < p.maxFrac then 46 :: frcN p else []).length=if 0 < p.maxFrac then 1+p.maxFrac else 0:=by
  split
  · rw [List.length_cons,qFM h]; omega
  · rfl
 have h3:(if p.sci then 69 :: expN p else []).length=if p.sci then 1+((if p.plus then 1 else 0)+p.minExp) else 0:=by
  split
  · rw [List.length_cons,expN,List.length_append,List.length_replicate]
    cases p.plus
    · rw [if_neg (by decide),if_neg (by decide),List.length_nil]; omega
    · rw [if_pos rfl,if_pos rfl,List.length_singleton]; omega
  · rfl
 rw [prN,List.length_append,List.length_append,h2,h3]
 omega
theorem qKH {c:Nat} {l:List Nat} (h:l.any (· == c)=true):l.length=(upA c l).length+(1+(dnA c l).length):=by
 obtain ⟨x,hx,e⟩:=List.any_eq_true.1 h
 have e:x=c:=by simpa using e
 subst e
 have hd:0 < (l.dropWhile (· != x)).length:=by
  rcases Nat.eq_zero_or_pos (l.dropWhile (· != x)).length with h0 | h0
  · have hn:=List.eq_nil_of_length_eq_zero h0
    have ht:l.takeWhile (· != x)=l:=by
     have:=List.takeWhile_append_dropWhile (p:=(· != x)) (l:=l)
     rwa [hn,List.append_nil] at this
    rw [← ht] at hx;have:=List.all_eq_true.1 List.all_takeWhile x hx;simp at this
  · exact h0
 have:=congrArg List.length (List.takeWhile_append_dropWhile (p:=(· != x)) (l:=l))
 rw [List.length_append] at this
 rw [upA,dnA,List.length_drop]
 omega
theorem qGB {c:Nat} {l:List Nat} (h:l.any (· == c)=false):upA c l=l:=by
 have h':∀ x ∈ l,(x != c)=true:=fun x hx=>by have:=List.any_eq_false.1 h x hx; simpa using this
 have:=List.takeWhile_append_of_pos (l₂:=[]) h'
 simpa [upA] using this
theorem qKI (e:List Nat):e.length=(if e.head? = some 43 then 1 else 0)+(expT e).length:=by
 rw [expT,List.length_drop]
 split
 · rename_i h
   cases e with
   | nil=>cases h
   | cons x t=>rw [List.length_cons]; omega
 · omega
theorem body_len {body:List Nat} {sci:Bool} {me:Nat} {plus:Bool} {p:NF} (h:numB body sci me plus=(p,0)) (hexp:(sci=true∧1≤me∧me≤9)∨(sci=false∧me=0∧plus=false)) :
 (p.sci=sci∧p.minExp=me∧p.plus=plus)∧max (leastN p) (p.minInt+p.maxSig)+(if p.prim=0 then 1 else if p.sec=p.prim then 2 else 3)+(if 0 < p.maxFrac then 1+p.maxFrac else 0)≤body.length+1:=by
 obtain ⟨_,hW,hok⟩:=qGW h hexp
 obtain ⟨hz,hne,hP⟩:=qGA hW
 have hl1:=qKG (upA 46 body) 0
 have hl2:=spl_sum (upA 46 body) 0
 have hl3:=qGY (upA 46 body) 0
 have hne2:0 < (pln (upA 46 body)).length+(dnA 46 body).length:=by
  rw [← List.length_append]; exact List.length_pos_iff.2 hne
 have hbody:body.length=(upA 46 body).length+(if body.any (· == 46) then 1+(dnA 46 body).length else 0):=by
  split
  · rename_i hb; exact qKH hb
  · rename_i hb; rw [qGB (Bool.eq_false_iff.2 hb)]; rfl
 have hdn:body.any (· == 46)=false→dnA 46 body=[]:=qDX
 generalize upA 46 body=W at *
 generalize dnA 46 body=F at *
 generalize spl W 0=sz at *
 generalize hbp:body.any (· == 46)=pt at *
 have hs:=sizes_ok hz
 have hgrp:(if primZ sz=0 then 1 else if secZ sz=primZ sz then 2 else 3)≤sz.length:=by
  split
  · omega
  · have:=qFP hz (by omega)
    split
    · exact this.2.1
    · rename_i hh; exact this.2.2 hh
 rcases qLP hP with ⟨hpt,rfl⟩ | rfl
 · refine ⟨⟨rfl,rfl,rfl⟩,?_⟩
   subst hpt;have hF:=hdn rfl;subst hF;have hd:((pln W).dropWhile h35).length≤(pln W).length:=(List.dropWhile_sublist _).length_le;have hlst:leastN (sigN (pln W) sz sci me plus)≤(pln W).length:=by
    rw [leastN]
    split
    · exact Nat.zero_le _
    · split
      · rename_i hp
        have:=(qFP hz hp).1
        show primZ sz+1+(if secZ sz≠primZ sz then secZ sz else 0)≤_
        omega
      · split
        · simp at hne2; omega
        · exact Nat.zero_le _
   show max _ (0+((pln W).dropWhile h35).length)+(if primZ sz=0 then 1 else if secZ sz=primZ sz then 2 else 3)+0≤body.length+1
   generalize leastN (sigN (pln W) sz sci me plus)=L at *;generalize (if primZ sz=0 then 1 else if secZ sz=primZ sz then 2 else 3)=G at *;rw [if_neg (by decide)] at hbody;omega
 · refine ⟨⟨rfl,rfl,rfl⟩,?_⟩
   have hc1:(pln W).countP dg≤(pln W).length:=List.countP_le_length;have hlst:leastN (digN (pln W) F sz sci me plus)≤(pln W).length:=by
    rw [leastN]
    split
    · rename_i hsc
      have hsc:sci=true:=by
       have:sci && true=true:=hsc
       simpa using this
      show (if sci then (pln W).length else 0)≤_
      rw [hsc]; exact Nat.le_refl _
    · split
      · rename_i hp
        have:=(qFP hz hp).1
        show primZ sz+1+(if secZ sz≠primZ sz then secZ sz else 0)≤_
        omega
      · split
        · rename_i hf
          have hf:F.length=0:=hf;omega
        · exact Nat.zero_le _
   show max _ ((pln W).countP dg+0)+(if primZ sz=0 then 1 else if secZ sz=primZ sz then 2 else 3)+(if 0 < F.length then 1+F.length else 0)≤body.length+1
   generalize leastN (digN (pln W) F sz sci me plus)=L at *;generalize (if primZ sz=0 then 1 else if secZ sz=primZ sz then 2 else 3)=G at *
   cases pt
   · have hF:=hdn rfl
     subst hF;rw [if_neg (by decide)] at hbody;rw [if_neg (by decide)];omega
   · rw [if_pos rfl] at hbody
     split <;> omega
theorem qJA {l:List Nat} {p:NF} (h:numZ l=(p,0)):(prN p 0).length≤l.length:=by
 have hok:=qLN h
 have hpl:=qFQ hok 0
 unfold numZ at h
 cases ha:l.any (· == 69)
 · rw [ha,if_neg (by decide),qGB ha] at h
   obtain ⟨⟨e1,e2,e3⟩,hb⟩:=body_len h (.inr ⟨rfl,rfl,rfl⟩);rw [e1] at hpl;simp only [Bool.false_eq_true,if_false] at hpl;omega
 · rw [ha,if_pos rfl] at h
   split at h
   · rename_i h1
     exact absurd (Prod.mk.inj h).2 h1
   · rename_i h1
     have h1:(expZ (dnA 69 l)).1=0:=Decidable.not_not.1 h1;obtain ⟨⟨e1,e2,e3⟩,hb⟩:=body_len h (.inl ⟨rfl,qIB h1⟩);have hll:=qKH ha;have hel:=qKI (dnA 69 l);have hx:(expZ (dnA 69 l)).2.1=(expT (dnA 69 l)).length∧(expZ (dnA 69 l)).2.2=decide ((dnA 69 l).head? = some 43):=by
      unfold expZ at h1 ⊢
      split at h1
      · exact absurd h1 (by decide)
      · rename_i g1
        split at h1
        · exact absurd h1 (by decide)
        · rename_i g2
          rw [if_neg g1,if_neg g2]; exact ⟨rfl,rfl⟩
     rw [e1,e2,e3,hx.1,hx.2,if_pos rfl,if_pos rfl] at hpl;simp only [decide_eq_true_iff] at hpl;omega
theorem pr_more_len {p:NF} (h:OkN p) (hs:p.sci=false) (m:Nat):(prN p m).length=(prN p 0).length+m:=by
 have h1:=qFQ h m
 have h2:=qFQ h 0
 rw [hs] at h1 h2
 simp only [Bool.false_eq_true,if_false] at h1 h2
 omega
theorem pr_sci {p:NF} (hs:p.sci=true) (m:Nat):prN p m=prN p 0:=by
 rw [prN,prN,whl,whl,hs]; rfl
theorem cmZ_rep {P S:Nat} {t:List Nat} (hl:0 < P→P < t.length∧(S≠P→P+S < t.length)):∀ m,cmZ P S (List.replicate m 35++t)=List.replicate m 35++cmZ P S t:=by
 intro m
 induction m with
 | zero=>rfl
 | succ m ih=>
  rw [List.replicate_succ,List.cons_append,cmZ,ih,if_neg,List.nil_append]; rfl;rw [List.length_append,List.length_replicate];rintro ⟨h0,h1⟩;have:=hl h0
  rcases h1 with h1 | ⟨h1,h2⟩
  · omega
  · have:=this.2 h1; omega
theorem pr_more {p:NF} (h:OkN p) (hs:p.sci=false) (m:Nat):prN p m=List.replicate m 35++prN p 0:=by
 have hw:whl p m=List.replicate m 35++whl p 0:=by
  rw [whl,whl,hs]; rfl
 have hg:=qKF h 0
 have hc:cmW p.prim p.sec (whl p m)=List.replicate m 35++cmW p.prim p.sec (whl p 0):=by
  rw [hw]
  cases m with
  | zero=>rfl
  | succ m=>
   rw [List.replicate_succ,List.cons_append,cmW,cmZ_rep,List.cons_append]
   · cases hq:whl p 0 with
     | nil=>rfl
     | cons c t=>
      rw [cmW,cmZ,if_neg,List.nil_append];rintro ⟨h0,h1⟩;have:=hg h0;rw [hq,List.length_cons] at this
      rcases h1 with h1 | ⟨h1,h2⟩
      · split at this <;> omega
      · rw [if_pos h1] at this; omega
   · intro h0
     have:=hg h0
     split at this
     · exact ⟨by omega,fun _=>by omega⟩
     · rename_i hh
       exact ⟨by omega,fun h=>absurd h hh⟩
 rw [prN,prN,hc,List.append_assoc]
open Go.RowKit
open Lib (hid)
theorem beqN (a b:Nat):(((a:Nat):Int) == ((b:Nat):Int))=decide (a=b):=by
 by_cases h:a=b
 · subst h; simp
 · rw [decide_eq_false h,beq_eq_false_iff_ne]; omega
theorem qJB {s:ByteArray} {k:Nat} (hk:k < s.size):∃ hl:k < (bts s).length,(bts s)[k]=s[k].toNat:=by
 have hl:k < (bts s).length:=by rw [qA1]; exact hk
 refine ⟨hl,?_⟩
 have:=qBQ s k hk
 rwa [List.getD,List.getElem?_eq_getElem hl] at this
theorem qGC {s:ByteArray} {k:Nat} (hk:k < s.size):bts s=(bts s).take k++s[k].toNat :: (bts s).drop (k+1):=by
 obtain ⟨hl,e⟩:=qJB hk
 conv=>lhs; rw [← List.take_append_drop k (bts s),List.drop_eq_getElem_cons hl,e]
theorem qAQ {s:ByteArray} {k:Nat} (hk:k < s.size):(bts s).take (k+1)=(bts s).take k++[s[k].toNat]:=by
 obtain ⟨hl,e⟩:=qJB hk
 rw [List.take_succ_eq_append_getElem hl,e]
theorem qBT (s:ByteArray):(bts s).take s.size=bts s:=List.take_of_length_le (by rw [qA1]; exact Nat.le_refl _)
set_option maxHeartbeats 1000000 in
theorem refCut_c (s:ByteArray) (c:Nat) (w:World) (hs:s.size≤10000000000):Calls Tryz.prog 108 #[.string s,.int .u8 (c:Int)] w fun e w'=>
 e=.returned (.tuple #[.string (stz (upA c (bts s))),.string (stz (dnA c (bts s))),.bool ((bts s).any (· == c))])∧∃ m,w'=w.drewN m:=by
 go_enter Tryz.func108,Tryz.ntmps108
 go_wp2
 go_loopw [7] (fun iv wr=>∃ k:Nat,k≤s.size∧iv=.int .i64 (k:Int)∧wr=w∧∀ x ∈ (bts s).take k,x≠c) (fun iv _=>s.size - (intOf iv).toNat)
 case atStart=>exact ⟨0,Nat.zero_le _,rfl,rfl,fun x hx=>by simp at hx⟩
 case round=>
  obtain ⟨k,hk,rfl,rfl,hall0⟩:=hrel;have HA:=hid hall0;clear hall0
  by_cases hlt:k < s.size
  · have HSP:=hid (qGC hlt)
    have HTS:=hid (qAQ hlt)
    by_cases hc:s[k].toNat=c
    · have g1:(((s[k].toNat:Nat):Int) == (c:Int))=true:=by rw [beqN]; exact decide_eq_true hc
      have HC:=hid hc;have HV:=hid (show stz (upA c (bts s))=s.extract 0 k∧stz (dnA c (bts s))=s.extract (k+1) s.size∧(bts s).any (· == c)=true by
       have e:=HSP.out;rw [hc] at e;obtain ⟨e1,e2⟩:=qKE (b:=(bts s).drop (k+1)) HA.out;refine ⟨(qE9 ?_).symm,(qE9 ?_).symm,?_⟩
       · rw [qBL,e,e1,← e]
       · rw [qB7,e,e2,← e]
       · rw [e]; simp)
      clear hc
      go_wp2
      go_quiet (fail)
      go_wp2
      go_ret3
      rw [HV.out.1,HV.out.2.1,HV.out.2.2];exact ⟨rfl,_,rfl⟩
    · have g1:(((s[k].toNat:Nat):Int) == (c:Int))=false:=by rw [beqN]; exact decide_eq_false hc
      have HC:=hid hc;clear hc
      go_wp2
      go_roundw
      case rel=>
       refine ⟨k+1,by omega,by go_num,by first | trivial | rfl,fun x hx=>?_⟩;rw [HTS.out] at hx
       rcases List.mem_append.1 hx with hx | hx
       · exact HA.out x hx
       · rw [List.mem_singleton] at hx; subst hx; exact HC.out
      case measure=>simp [intOf]; omega
  · have hke:k=s.size:=by omega
    subst hke;rw [qBT] at HA;have HV:=hid (tw_all HA.out)
    go_wp2
    go_ret3
    rw [HV.out.1,HV.out.2.1,HV.out.2.2,qI2];exact ⟨rfl,0,rfl⟩
theorem z48_iff {x:Nat}:z48 x=true↔x=48:=by simp [z48]
theorem qDZ {s:ByteArray} {k:Nat} (hk:k < s.size):(bts s).drop k=s[k].toNat :: (bts s).drop (k+1):=by
 obtain ⟨hl,e⟩:=qJB hk
 rw [List.drop_eq_getElem_cons hl,e]
theorem strip_at {s:ByteArray} {k:Nat} (hk:k < s.size) (ha:∀ x ∈ (bts s).take k,z48 x=true) (hn:s[k].toNat≠48):(bts s).dropWhile z48=(bts s).drop k:=by
 conv=>lhs; rw [← List.take_append_drop k (bts s)]
 rw [qH6 ha,qDZ hk,qDY]
 intro c hc
 rw [List.head?_cons] at hc
 cases hc
 rw [Bool.eq_false_iff]
 exact fun e=>hn (z48_iff.1 e)
set_option maxHeartbeats 1000000 in
theorem qEK (s:ByteArray) (w:World) (hs:s.size≤10000000000):Calls Tryz.prog 109 #[.string s] w fun e w'=>
 e=.returned (.string (stz ((bts s).dropWhile z48)))∧w=w':=by
 go_enter Tryz.func109,Tryz.ntmps109
 go_wp2
 go_loopw [0] (fun sv wr=>∃ (k:Nat) (t:ByteArray),k≤s.size∧sv=.string t∧bts t=(bts s).drop k∧wr=w∧∀ x ∈ (bts s).take k,z48 x=true) (fun sv _=>match sv with | .string t=>t.size | _=>0)
 case atStart=>exact ⟨0,s,Nat.zero_le _,rfl,by simp,rfl,fun x hx=>by simp at hx⟩
 case round=>
  obtain ⟨k,t,hk,rfl,ht0,rfl,hall0⟩:=hrel;have HT:=hid ht0;have HA:=hid hall0;have hts:t.size+k=s.size:=by
   have:=congrArg List.length ht0;rw [qA1,List.length_drop,qA1] at this;omega
  clear hall0 ht0
  by_cases h0:0 < t.size
  · have g0:decide ((0:Int) < (t.size:Int))=true:=decide_eq_true (by omega)
    have hks:k < s.size:=by omega
    have hx:t[0].toNat=s[k].toNat:=by
     obtain ⟨h1,e1⟩:=qJB h0;obtain ⟨h2,e2⟩:=qJB hks;rw [← e1,← e2];have e:=congrArg (fun l=>l[0]?) HT.out;rw [List.getElem?_drop,List.getElem?_eq_getElem h1,List.getElem?_eq_getElem (by omega)] at e
     simpa using e
    have HSP:=hid (qGC hks);have HTS:=hid (qAQ hks)
    by_cases hz:t[0].toNat=48
    · have g1:(((t[0].toNat:Nat):Int) == 48)=true:=by simp only [beq_iff_eq]; omega
      have HZ:=hid (show s[k].toNat=48 by omega);clear hz hx
      go_wp2
      go_roundw
      case rel=>
       refine ⟨k+1,_,by omega,rfl,?_,by first | trivial | rfl,fun x hx=>?_⟩
       · rw [qB7,HT.out,List.drop_drop]
       · rw [HTS.out] at hx
         rcases List.mem_append.1 hx with hx | hx
         · exact HA.out x hx
         · rw [List.mem_singleton] at hx; subst hx; exact z48_iff.2 HZ.out
      case measure=>
       show (t.extract 1 t.size).size < t.size
       rw [ByteArray.size_extract]; omega
    · have g1:(((t[0].toNat:Nat):Int) == 48)=false:=by simp only [beq_eq_false_iff_ne,ne_eq]; omega
      have HV:=hid (show stz ((bts s).dropWhile z48)=t from (qE9 (by rw [strip_at hks HA.out (by omega),HT.out])).symm);clear hz hx
      go_wp2
      go_ret
      rw [HV.out];exact ⟨rfl,rfl⟩
  · have g0:decide ((0:Int) < (t.size:Int))=false:=decide_eq_false (by omega)
    have hke:k=s.size:=by omega
    subst hke;rw [qBT] at HA;have HV:=hid (show stz ((bts s).dropWhile z48)=t by
     refine (qE9 ?_).symm;rw [qIA HA.out,HT.out,List.drop_of_length_le (by rw [qA1]; exact Nat.le_refl _)])
    go_wp2
    go_ret
    rw [HV.out];exact ⟨rfl,rfl⟩
def clsC (c x:Nat):Bool:=x == c || (c == 48 && dg x)
theorem qEL:clsC 48=dg:=by
 funext x
 by_cases h:x=48
 · subst h; rfl
 · simp [clsC,h]
theorem qD8 {c:Nat} (h:c≠48):clsC c=(· == c):=by funext x; simp [clsC,h]
theorem qJC {x:Nat}:dg x=true↔48≤x∧x≤57:=by simp [dg]
theorem take_count {s:ByteArray} {k:Nat} (hk:k < s.size) (A:Nat→Bool):((bts s).take (k+1)).countP A=((bts s).take k).countP A+(if A s[k].toNat then 1 else 0):=by
 rw [qAQ hk,List.countP_append,List.countP_singleton]
set_option maxHeartbeats 1000000 in
theorem qBC (s:ByteArray) (c:Nat) (w:World) (hs:s.size≤10000000000):Calls Tryz.prog 110 #[.string s,.int .u8 (c:Int)] w fun e w'=>
 e=.returned (.int .i64 (((bts s).countP (clsC c):Nat):Int))∧w=w':=by
 go_enter Tryz.func110,Tryz.ntmps110
 go_wp2
 go_loopw [5,6] (fun nv iv wr=>∃ k n:Nat,k≤s.size∧n≤k∧iv=.int .i64 (k:Int)∧nv=.int .i64 (n:Int)∧n=((bts s).take k).countP (clsC c)∧wr=w) (fun _ iv _=>s.size - (intOf iv).toNat)
 case atStart=>exact ⟨0,0,Nat.zero_le _,Nat.zero_le _,rfl,rfl,rfl,rfl⟩
 case round=>
  obtain ⟨k,n,hk,hnk,rfl,rfl,hn0,rfl⟩:=hrel;have HN:=hid hn0;clear hn0
  by_cases hlt:k < s.size
  · have HTC:=hid (take_count hlt (clsC c))
    by_cases h1:s[k].toNat=c
    · have g1:(((s[k].toNat:Nat):Int) == (c:Int))=true:=by rw [beqN]; exact decide_eq_true h1
      have HC:=hid (show clsC c s[k].toNat=true by rw [h1]; simp [clsC]);clear h1
      go_wp2
      go_roundw
      case rel=>exact ⟨k+1,n+1,by omega,by omega,by go_num,by go_num,by rw [HTC.out,HC.out,← HN.out]; rfl,by first | trivial | rfl⟩
      case measure=>simp [intOf]; omega
    · have g1:(((s[k].toNat:Nat):Int) == (c:Int))=false:=by rw [beqN]; exact decide_eq_false h1
      by_cases h2:c=48
      · subst h2
        have g1':(((s[k].toNat:Nat):Int) == 48)=false:=g1;clear g1
        by_cases h3:48≤s[k].toNat
        · have g3:decide ((48:Int)≤((s[k].toNat:Nat):Int))=true:=decide_eq_true (by omega)
          by_cases h4:s[k].toNat≤57
          · have g4:decide (((s[k].toNat:Nat):Int)≤57)=true:=decide_eq_true (by omega)
            have HC:=hid (show clsC 48 s[k].toNat=true by rw [qEL]; exact qJC.2 ⟨h3,h4⟩);clear h1 h3 h4
            go_wp2
            go_roundw
            case rel=>exact ⟨k+1,n+1,by omega,by omega,by go_num,by go_num,by rw [HTC.out,HC.out,← HN.out]; rfl,by first | trivial | rfl⟩
            case measure=>simp [intOf]; omega
          · have g4:decide (((s[k].toNat:Nat):Int)≤57)=false:=decide_eq_false (by omega)
            have HC:=hid (show clsC 48 s[k].toNat=false by rw [qEL,Bool.eq_false_iff]; intro e; have:=qJC.1 e; omega);clear h1 h3 h4
            go_wp2
            go_roundw
            case rel=>exact ⟨k+1,n,by omega,by omega,by go_num,rfl,by rw [HTC.out,HC.out,← HN.out]; rfl,by first | trivial | rfl⟩
            case measure=>simp [intOf]; omega
        · have g3:decide ((48:Int)≤((s[k].toNat:Nat):Int))=false:=decide_eq_false (by omega)
          have HC:=hid (show clsC 48 s[k].toNat=false by rw [qEL,Bool.eq_false_iff]; intro e; have:=qJC.1 e; omega);clear h1 h3
          go_wp2
          go_roundw
          case rel=>exact ⟨k+1,n,by omega,by omega,by go_num,rfl,by rw [HTC.out,HC.out,← HN.out]; rfl,by first | trivial | rfl⟩
          case measure=>simp [intOf]; omega
      · have g2:((c:Int) == 48)=false:=by simp only [beq_eq_false_iff_ne,ne_eq]; omega
        have HC:=hid (show clsC c s[k].toNat=false by rw [qD8 h2]; simpa using h1);clear h1 h2
        go_wp2
        go_roundw
        case rel=>exact ⟨k+1,n,by omega,by omega,by go_num,rfl,by rw [HTC.out,HC.out,← HN.out]; rfl,by first | trivial | rfl⟩
        case measure=>simp [intOf]; omega
  · have hke:k=s.size:=by omega
    subst hke;rw [qBT] at HN
    go_wp2
    go_ret
    rw [← HN.out];exact ⟨rfl,rfl⟩
set_option maxHeartbeats 1000000 in
theorem qKJ (cs:ByteArray) (c:Nat) (hcs:cs=stz [c]) (n:Int) (w:World) (hn:n≤1000000000):Calls Tryz.prog 78 #[.string cs,.int .i64 n] w fun e w'=>
 e=.returned (.string (stz (List.replicate n.toNat c)))∧w=w':=by
 have hz:cs.size=1:=by rw [hcs,qA9]; rfl
 have HCS:=hid hcs
 clear hcs
 go_enter Tryz.func78,Tryz.ntmps78
 go_wp2
 go_loopw [5,6] (fun sv iv wr=>∃ (k:Nat) (t:ByteArray),k≤n.toNat∧iv=.int .i64 (k:Int)∧sv=.string t∧t=stz (List.replicate k c)∧wr=w) (fun _ iv _=>n.toNat - (intOf iv).toNat)
 case atStart=>exact ⟨0,⟨#[]⟩,Nat.zero_le _,rfl,rfl,rfl,rfl⟩
 case round=>
  obtain ⟨k,t,hk,rfl,rfl,ht0,rfl⟩:=hrel;have hts:t.size=k:=by rw [ht0,qA9,List.length_replicate]
  have HT:=hid ht0;clear ht0
  by_cases hlt:(k:Int) < n
  · have hsz:¬ 9223372036854775807 < t.size+cs.size:=by omega
    go_wp2
    go_roundw
    case rel=>
     refine ⟨k+1,_,by omega,by go_num,rfl,?_,by first | trivial | rfl⟩;rw [HT.out,HCS.out,← qAA,List.replicate_succ',]
    case measure=>simp [intOf]; omega
  · have hke:k=n.toNat:=by omega
    subst hke
    go_wp2
    go_ret
    rw [← HT.out];exact ⟨rfl,rfl⟩
def rkZ (A B C:Nat→Bool) (k:Nat) (l:List Nat):Bool:=
 if k=0 then qBB A B C l else if k=1 then ((l.dropWhile B).dropWhile C).isEmpty else if k=2 then (l.dropWhile C).isEmpty else l.isEmpty
def rcZ (a b c:Nat) (k:Nat):Nat:=if k=0 then a else if k=1 then b else c
theorem rk_take {a b c k x:Nat} {t:List Nat} (h:clsC (rcZ a b c k) x=true) (hk:k < 3):rkZ (clsC a) (clsC b) (clsC c) k (x :: t)=rkZ (clsC a) (clsC b) (clsC c) k t:=by
 have:k=0∨k=1∨k=2:=by omega
 rcases this with rfl | rfl | rfl
 · have h:clsC a x=true:=h
   show (((List.dropWhile (clsC a) (x :: t)).dropWhile (clsC b)).dropWhile (clsC c)).isEmpty=(((List.dropWhile (clsC a) t).dropWhile (clsC b)).dropWhile (clsC c)).isEmpty
   rw [List.dropWhile_cons,if_pos h]
 · have h:clsC b x=true:=h
   show ((List.dropWhile (clsC b) (x :: t)).dropWhile (clsC c)).isEmpty=((List.dropWhile (clsC b) t).dropWhile (clsC c)).isEmpty
   rw [List.dropWhile_cons,if_pos h]
 · have h:clsC c x=true:=h
   show (List.dropWhile (clsC c) (x :: t)).isEmpty=(List.dropWhile (clsC c) t).isEmpty
   rw [List.dropWhile_cons,if_pos h]
theorem rk_next {a b c k x:Nat} {t:List Nat} (h:clsC (rcZ a b c k) x=false) (hk:k < 3):rkZ (clsC a) (clsC b) (clsC c) k (x :: t)=rkZ (clsC a) (clsC b) (clsC c) (k+1) (x :: t):=by
 have:k=0∨k=1∨k=2:=by omega
 rcases this with rfl | rfl | rfl
 · have h:¬ clsC a x=true:=by have h:clsC a x=false:=h; rw [h]; decide
   show (((List.dropWhile (clsC a) (x :: t)).dropWhile (clsC b)).dropWhile (clsC c)).isEmpty=((List.dropWhile (clsC b) (x :: t)).dropWhile (clsC c)).isEmpty
   rw [List.dropWhile_cons,if_neg h]
 · have h:¬ clsC b x=true:=by have h:clsC b x=false:=h; rw [h]; decide
   show ((List.dropWhile (clsC b) (x :: t)).dropWhile (clsC c)).isEmpty=(List.dropWhile (clsC c) (x :: t)).isEmpty
   rw [List.dropWhile_cons,if_neg h]
 · have h:¬ clsC c x=true:=by have h:clsC c x=false:=h; rw [h]; decide
   show (List.dropWhile (clsC c) (x :: t)).isEmpty=(x :: t).isEmpty
   rw [List.dropWhile_cons,if_neg h]
theorem rk_nil (a b c k:Nat):rkZ (clsC a) (clsC b) (clsC c) k []=true:=by
 unfold rkZ; repeat' split
 all_goals rfl
theorem rc_at (W:World) (a b c:Nat) (T:TypeId) {k:Nat} (hk:k < 3):(W.alloc (.cells #[.int .u8 (a:Int),.int .u8 (b:Int),.int .u8 (c:Int)] T)).cell? ⟨W.heap.size,k,none⟩=some (.int .u8 (rcZ a b c k:Nat)):=by
 have:k=0∨k=1∨k=2:=by omega
 rcases this with rfl | rfl | rfl <;> rw [cell_of_row _ W.heap.size _ _ _ _ (heap_alloc_new W _)] <;> rfl
set_option maxHeartbeats 1000000 in
theorem qIC (s:ByteArray) (a b c:Nat) (w:World) (hs:s.size≤10000000000):Calls Tryz.prog 111 #[.string s,.int .u8 (a:Int),.int .u8 (b:Int),.int .u8 (c:Int)] w fun e w'=>
 e=.returned (.bool (qBB (clsC a) (clsC b) (clsC c) (bts s)))∧Below w.heap.size w w':=by
 have BA:=hid ((Below.refl _ w).alloc (Nat.le_refl _) (.cells #[.int .u8 (a:Int),.int .u8 (b:Int),.int .u8 (c:Int)] 5))
 have HRC:=hid (fun k hk=>rc_at w a b c 5 (k:=k) hk)
 go_enter Tryz.func111,Tryz.ntmps111
 go_wp2
 generalize hW:w.alloc (.cells #[.int .u8 (a:Int),.int .u8 (b:Int),.int .u8 (c:Int)] 5)=W at *
 clear hW
 go_loopw [10,11] (fun kv iv wr=>∃ i k m:Nat,i≤s.size∧k≤2∧iv=.int .i64 (i:Int)∧kv=.int .i64 (k:Int)∧wr=W.drewN m∧qBB (clsC a) (clsC b) (clsC c) (bts s)=rkZ (clsC a) (clsC b) (clsC c) k ((bts s).drop i)) (fun _ iv _=>s.size - (intOf iv).toNat)
 case atStart=>exact ⟨0,0,0,Nat.zero_le _,Nat.zero_le _,rfl,rfl,rfl,rfl⟩
 case round=>
  obtain ⟨i,k,m,hi,hk,rfl,rfl,rfl,hq0⟩:=hrel;have HQ:=hid hq0;clear hq0
  by_cases hlt:i < s.size
  · have HD:=hid (qDZ hlt)
    have hez:(s.extract i (i+1)).size=1:=by rw [ByteArray.size_extract]; omega
    have HE:Hid (∀ y W',Calls Tryz.prog 110 #[.string (s.extract i (i+1)),.int .u8 ((y:Nat):Int)] W' fun e w'=>e=.returned (.int .i64 (if clsC y s[i].toNat then 1 else 0))∧W'=w'):=hid fun y W'=>by
     have hC:=qBC (s.extract i (i+1)) y W' (by omega);have e:bts (s.extract i (i+1))=[s[i].toNat]:=by
      rw [qC7,qAQ hlt,List.drop_append_of_le_length (by rw [List.length_take,qA1]; omega),List.drop_eq_nil_of_le (by rw [List.length_take,qA1]; omega),List.nil_append]
     rw [e,List.countP_singleton] at hC;refine hC.mono ?_;rintro r w' ⟨rfl,rfl⟩;refine ⟨?_,rfl⟩
     cases clsC y s[i].toNat <;> rfl
    clear hez
    go_wp2
    go_loopw [10] (fun kv wr=>∃ k m:Nat,k≤3∧kv=.int .i64 (k:Int)∧wr=W.drewN m∧qBB (clsC a) (clsC b) (clsC c) (bts s)=rkZ (clsC a) (clsC b) (clsC c) k ((bts s).drop i)) (fun kv _=>3 - (intOf kv).toNat)
    case atStart=>exact ⟨k,m,by omega,rfl,rfl,HQ.out⟩
    case round=>
     clear HQ hk;obtain ⟨k,m,hk,rfl,rfl,hq0⟩:=hrel;have HQ:=hid hq0;clear hq0
     by_cases hk3:k < 3
     · have g0:decide ((k:Int) < 3)=true:=decide_eq_true (by omega)
       have hc:=HRC.out k hk3;have HC:=hid (HE.out (rcZ a b c k));have HTK:=hid (fun (h:clsC (rcZ a b c k) s[i].toNat=true)=>rk_take (a:=a) (b:=b) (c:=c) (x:=s[i].toNat) (t:=(bts s).drop (i+1)) h hk3);have HNX:=hid (fun (h:clsC (rcZ a b c k) s[i].toNat=false)=>rk_next (a:=a) (b:=b) (c:=c) (x:=s[i].toNat) (t:=(bts s).drop (i+1)) h hk3);generalize rcZ a b c k=y at *
       rcases hcl:clsC y s[i].toNat with _ | _
       · rw [hcl] at HC
         have HR:=hid (HQ.out.trans (by rw [HD.out,HNX.out hcl]));clear hcl
         go_wp2
         go_quiet ((go_at_call 110; exact qAZ (HC.out _)))
         go_wp2
         go_roundw
         case rel=>exact ⟨k+1,_,by omega,by go_num,rfl,by rw [HR.out,HD.out]⟩
         case measure=>simp [intOf]; omega
       · rw [hcl] at HC
         have HR:=hid (HQ.out.trans (by rw [HD.out,HTK.out hcl]));have g3:((k:Int) == 3)=false:=by simp only [beq_eq_false_iff_ne,ne_eq]; omega
         clear hcl
         go_wp2
         go_quiet ((go_at_call 110; exact qAZ (HC.out _)))
         go_wp2
         go_roundw
         case rel=>exact ⟨i+1,k,_,by omega,by omega,by go_num,rfl,rfl,HR.out⟩
         case measure=>simp [intOf]; omega
     · obtain rfl:k=3:=by omega
       have HR:=hid (show qBB (clsC a) (clsC b) (clsC c) (bts s)=false by rw [HQ.out,HD.out]; rfl)
       go_wp2
       go_quiet (fail)
       go_wp2
       go_ret
       rw [HR.out];exact ⟨rfl,BA.out.of_drewN _⟩
  · have hke:i=s.size:=by omega
    subst hke;have HR:=hid (show qBB (clsC a) (clsC b) (clsC c) (bts s)=true by rw [HQ.out,List.drop_of_length_le (by rw [qA1]; exact Nat.le_refl _),rk_nil])
    go_wp2
    go_ret
    rw [HR.out];exact ⟨rfl,BA.out.of_drewN _⟩
end Go.Proofs.YtnoeonaajefajaaGreatDoor
