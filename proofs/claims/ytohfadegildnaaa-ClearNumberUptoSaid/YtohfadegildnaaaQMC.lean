import Derived.Test.YtohfadegildnaaaQMA
import Derived.Test.YtohfadegildnaaaQMB
import Derived.Deep.DeepCutAuto
set_option linter.all false
set_option maxRecDepth 100000
namespace Go.Proofs.Ytohfadegildnaaa
structure NF where
 minInt:Nat:=0
 maxInt:Nat:=0
 minFrac:Nat:=0
 maxFrac:Nat:=0
 minSig:Nat:=0
 maxSig:Nat:=0
 prim:Nat:=0
 sec:Nat:=0
 inc:List Nat:=[]
 sci:Bool:=false
 minExp:Nat:=0
 plus:Bool:=false
deriving DecidableEq
def dg (c:Nat):Bool:=decide (48≤c) && decide (c≤57)
def h35 (c:Nat):Bool:=c == 35
def a64 (c:Nat):Bool:=c == 64
def z48 (c:Nat):Bool:=c == 48
def okB (c:Nat):Bool:=h35 c || a64 c || c == 44 || c == 46 || dg c
def spl:List Nat→Nat→List Nat
 | [],n=>[n]
 | c :: t,n=>if c=44 then n :: spl t 0 else spl t (n+1)
def qBV (A B C:Nat→Bool) (l:List Nat):Bool:=(((l.dropWhile A).dropWhile B).dropWhile C).isEmpty
def qAJ (sz:List Nat):Nat:=if 1 < sz.length then sz.getD (sz.length - 1) 0 else 0
def secZ (sz:List Nat):Nat:=if 2 < sz.length then sz.getD (sz.length - 2) 0 else qAJ sz
def incZ (l:List Nat):List Nat:=(l.filter fun c=>!h35 c).dropWhile z48
def expT (e:List Nat):List Nat:=e.drop (if e.head? = some 43 then 1 else 0)
def expZ (e:List Nat):Nat × Nat × Bool:=
 if (expT e).isEmpty || !(expT e).all z48 then (4,0,false) else if 9 < (expT e).length then (8,0,false) else (0,(expT e).length,decide (e.head? = some 43))
def bigN (p:NF):Bool:=decide (40 < p.minInt) || decide (40 < p.maxInt) || decide (40 < p.maxFrac) || decide (40 < p.maxSig) || decide (40 < p.prim) || decide (40 < p.sec) || decide (40 < p.inc.length)
def finN (mix:Bool) (p:NF):NF × Nat:=if mix then ({},6) else if bigN p then ({},8) else (p,0)
def sigN (plain:List Nat) (sz:List Nat) (sci:Bool) (me:Nat) (plus:Bool):NF:=
 { minSig:=plain.countP a64,maxSig:=(plain.dropWhile h35).length,prim:=qAJ sz,sec:=secZ sz,sci:=sci,minExp:=me,plus:=plus }
def digN (plain frac:List Nat) (sz:List Nat) (sci:Bool) (me:Nat) (plus:Bool):NF:=
 { minInt:=plain.countP dg,maxInt:=if sci then plain.length else 0,minFrac:=frac.countP dg,maxFrac:=frac.length,prim:=qAJ sz,sec:=secZ sz,inc:=incZ (plain++frac),sci:=sci,minExp:=me,plus:=plus }
def numP (plain frac:List Nat) (point:Bool) (sz:List Nat) (sci:Bool) (me:Nat) (plus:Bool):NF × Nat:=
 if (plain++frac).any a64 then
  if point || plain.any dg then ({},6)
  else if !qBV h35 a64 h35 plain then ({},4)
  else finN (sci && (decide (1 < sz.length) || decide (plain.head? = some 35))) (sigN plain sz sci me plus)
 else if !qBV h35 dg dg plain || !qBV dg h35 h35 frac then ({},4)
 else if !(incZ (plain++frac)).isEmpty && (decide (frac.countP dg < frac.length) || sci) then ({},6)
 else finN (sci && decide (1 < sz.length)) (digN plain frac sz sci me plus)
def pln (l:List Nat):List Nat:=l.filter fun c=>c != 44
def numW (whole frac:List Nat) (point:Bool) (sci:Bool) (me:Nat) (plus:Bool):NF × Nat:=
 if frac.any (· == 46) || (point && frac.isEmpty) then ({},4)
 else if frac.any (· == 44) then ({},5)
 else if decide (1 < (spl whole 0).length) && (spl whole 0).any (· == 0) then ({},5)
 else if (pln whole++frac).isEmpty then ({},4)
 else numP (pln whole) frac point (spl whole 0) sci me plus
def upA (c:Nat) (l:List Nat):List Nat:=l.takeWhile (· != c)
def dnA (c:Nat) (l:List Nat):List Nat:=(l.dropWhile (· != c)).drop 1
def numB (body:List Nat) (sci:Bool) (me:Nat) (plus:Bool):NF × Nat:=
 if !body.all okB then ({},4) else numW (upA 46 body) (dnA 46 body) (body.any (· == 46)) sci me plus
def numZ (l:List Nat):NF × Nat:=
 if l.any (· == 69) then
  if (expZ (dnA 69 l)).1≠0 then ({},(expZ (dnA 69 l)).1) else numB (upA 69 l) true (expZ (dnA 69 l)).2.1 (expZ (dnA 69 l)).2.2
 else numB (upA 69 l) false 0 false
structure OkN (p:NF):Prop where
 exp:(p.sci=true∧1≤p.minExp∧p.minExp≤9)∨(p.sci=false∧p.minExp=0∧p.plus=false)
 grp:(p.prim=0∧p.sec=0)∨(1≤p.prim∧1≤p.sec∧p.sci=false)
 big:bigN p=false
 kind:((1≤p.minSig∧p.minSig≤p.maxSig)∧p.minInt=0∧p.maxInt=0∧p.minFrac=0∧p.maxFrac=0∧p.inc=[]) ∨
  ((p.minSig=0∧p.maxSig=0)∧p.minFrac≤p.maxFrac∧((p.sci=true∧p.minInt≤p.maxInt∧0 < p.maxInt+p.maxFrac)∨(p.sci=false∧p.maxInt=0)) ∧
   (p.inc=[]∨(p.inc.length≤p.minInt+p.minFrac∧p.inc.all dg=true∧p.inc.head?≠some 48∧p.minFrac=p.maxFrac∧p.sci=false)))
theorem pln_cons_ne {c:Nat} {l:List Nat} (h:c≠44):pln (c :: l)=c :: pln l:=by simp [pln,h]
theorem pln_comma (l:List Nat):pln (44 :: l)=pln l:=by simp [pln]
theorem finN_ok {mix:Bool} {q p:NF} (h:finN mix q=(p,0)):mix=false∧bigN q=false∧q=p:=by
 unfold finN at h
 cases mix
 · cases hb:bigN q
   · rw [hb] at h; exact ⟨rfl,rfl,(Prod.mk.inj h).1⟩
   · rw [hb] at h; exact absurd (Prod.mk.inj h).2 (by decide)
 · exact absurd (Prod.mk.inj h).2 (by decide)
theorem rows_mem {A B C:Nat→Bool} {l:List Nat} (h:qBV A B C l=true):∀ c ∈ l,A c=true∨B c=true∨C c=true:=by
 intro c hc
 rw [qBV,List.isEmpty_iff] at h
 rw [← List.takeWhile_append_dropWhile (p:=A) (l:=l)] at hc
 rcases List.mem_append.1 hc with hc | hc
 · exact .inl (List.all_eq_true.1 List.all_takeWhile c hc)
 · rw [← List.takeWhile_append_dropWhile (p:=B) (l:=l.dropWhile A)] at hc
   rcases List.mem_append.1 hc with hc | hc
   · exact .inr (.inl (List.all_eq_true.1 List.all_takeWhile c hc))
   · rw [← List.takeWhile_append_dropWhile (p:=C) (l:=(l.dropWhile A).dropWhile B),h,List.append_nil] at hc
     exact .inr (.inr (List.all_eq_true.1 List.all_takeWhile c hc))
theorem qHI {A:Nat→Bool} (l:List Nat):∀ c,(l.dropWhile A).head? = some c→A c=false:=by
 induction l with
 | nil=>intro c h; cases h
 | cons x t ih=>
  intro c h;rw [List.dropWhile_cons] at h
  split at h
  · exact ih c h
  · rename_i hx
    cases h
    simpa using hx
theorem qEQ {l:List Nat} {k:Nat} (h:k < l.length):l.getD k 0 ∈ l:=by
 rw [List.getD,List.getElem?_eq_getElem h]; exact List.getElem_mem h
theorem sizes_ok {sz:List Nat} (h:1 < sz.length→sz.any (· == 0)=false):(¬ 1 < sz.length∧qAJ sz=0∧secZ sz=0)∨(1 < sz.length∧1≤qAJ sz∧1≤secZ sz):=by
 by_cases hl:1 < sz.length
 · right
   have hz:=h hl;have hp:∀ k,k < sz.length→1≤sz.getD k 0:=by
    intro k hk
    rcases Nat.eq_zero_or_pos (sz.getD k 0) with h0 | h0
    · have:=List.any_eq_false.1 hz _ (qEQ hk)
      rw [h0] at this;simp at this
    · exact h0
   refine ⟨hl,?_,?_⟩
   · rw [qAJ,if_pos hl]; exact hp _ (by omega)
   · unfold secZ; split
     · exact hp _ (by omega)
     · rw [qAJ,if_pos hl]; exact hp _ (by omega)
 · left
   refine ⟨hl,by rw [qAJ,if_neg hl],?_⟩;rw [secZ,if_neg (by omega),qAJ,if_neg hl]
theorem countP_drop {A B:Nat→Bool} (h:∀ c,B c=true→A c=false) (l:List Nat):l.countP A=(l.dropWhile B).countP A:=by
 conv=>lhs; rw [← List.takeWhile_append_dropWhile (p:=B) (l:=l),List.countP_append]
 rw [List.countP_eq_zero.2,Nat.zero_add]
 intro c hc
 rw [h c (List.all_eq_true.1 List.all_takeWhile c hc)]; decide
theorem h35_a64 (c:Nat) (h:h35 c=true):a64 c=false:=by
 simp only [h35,beq_iff_eq] at h
 subst h; rfl
theorem qHJ {l:List Nat} (h:∀ c ∈ l,h35 c=true∨dg c=true):(l.filter fun c=>!h35 c)=l.filter dg:=by
 refine List.filter_congr fun c hc=>?_
 rcases h c hc with h1 | h1
 · have:c=35:=by simpa [h35] using h1
   subst this; rfl
 · rw [h1]
   have:¬ c=35:=by
    simp only [dg,Bool.and_eq_true,decide_eq_true_iff] at h1;omega
   simp [h35,this]
theorem any_false {A:Nat→Bool} {l:List Nat} (h:∀ c ∈ l,A c=false):l.any A=false:=by
 rw [List.any_eq_false]; intro c hc; rw [h c hc]; decide
theorem numP_ok {plain frac:List Nat} {point:Bool} {sz:List Nat} {sci:Bool} {me:Nat} {plus:Bool} {p:NF} (h:numP plain frac point sz sci me plus=(p,0)) (hsz:1 < sz.length→sz.any (· == 0)=false)
 (hne:plain++frac≠[]) (hpt:point=false→frac=[]) (hexp:(sci=true∧1≤me∧me≤9)∨(sci=false∧me=0∧plus=false)):OkN p:=by
 have hs:=sizes_ok hsz
 unfold numP at h
 cases ha:(plain++frac).any a64
 · rw [ha,if_neg (by decide)] at h
   cases hr:(!qBV h35 dg dg plain || !qBV dg h35 h35 frac)
   · rw [hr,if_neg (by decide)] at h
     cases hi:(!(incZ (plain++frac)).isEmpty && (decide (frac.countP dg < frac.length) || sci))
     · rw [hi,if_neg (by decide)] at h
       obtain ⟨hm,hb,rfl⟩:=finN_ok h;simp only [Bool.or_eq_false_iff,Bool.not_eq_false'] at hr;have hm1:=rows_mem hr.1;have hm2:=rows_mem hr.2;have hc1:plain.countP dg≤plain.length:=List.countP_le_length;have hc2:frac.countP dg≤frac.length:=List.countP_le_length;have hall:∀ c ∈ plain++frac,h35 c=true∨dg c=true:=by
        intro c hc
        rcases List.mem_append.1 hc with hc | hc
        · rcases hm1 c hc with h | h | h
          · exact .inl h
          · exact .inr h
          · exact .inr h
        · rcases hm2 c hc with h | h | h
          · exact .inr h
          · exact .inl h
          · exact .inl h
       have hne2:0 < plain.length+frac.length:=by
        rw [← List.length_append];exact List.length_pos_iff.2 hne
       refine ⟨hexp,?_,hb,.inr ⟨⟨rfl,rfl⟩,hc2,?_,?_⟩⟩
       · rcases hs with ⟨_,h1,h2⟩ | ⟨h0,h1,h2⟩
         · exact .inl ⟨h1,h2⟩
         · refine .inr ⟨h1,h2,?_⟩
           show sci=false
           rw [decide_eq_true h0,Bool.and_true] at hm;exact hm
       · cases sci
         · exact .inr ⟨rfl,rfl⟩
         · exact .inl ⟨rfl,hc1,hne2⟩
       · by_cases hinc:incZ (plain++frac)=[]
         · exact .inl hinc
         · right
           have hE:(incZ (plain++frac)).isEmpty=false:=by
            rw [Bool.eq_false_iff]; intro e; exact hinc (List.isEmpty_iff.1 e)
           rw [hE] at hi;simp only [Bool.not_false,Bool.true_and,Bool.or_eq_false_iff,decide_eq_false_iff_not] at hi;refine ⟨?_,?_,?_,?_,hi.2⟩
           · show (incZ (plain++frac)).length≤plain.countP dg+frac.countP dg
             rw [incZ,qHJ hall,← List.countP_append,List.countP_eq_length_filter];exact (List.dropWhile_sublist _).length_le
           · show (incZ (plain++frac)).all dg=true
             rw [incZ,qHJ hall];refine List.all_eq_true.2 fun c hc=>?_
             exact (List.mem_filter.1 ((List.dropWhile_sublist _).subset hc)).2
           · intro e
             have:=qHI _ _ e;simp [z48] at this
           · show frac.countP dg=frac.length
             omega
     · rw [hi,if_pos rfl] at h; exact absurd (Prod.mk.inj h).2 (by decide)
   · rw [hr,if_pos rfl] at h; exact absurd (Prod.mk.inj h).2 (by decide)
 · rw [ha,if_pos rfl] at h
   cases hp:(point || plain.any dg)
   · rw [hp,if_neg (by decide)] at h
     simp only [Bool.or_eq_false_iff] at hp;have hf:=hpt hp.1;subst hf;rw [List.append_nil] at ha
     cases hr:qBV h35 a64 h35 plain
     · rw [hr] at h; exact absurd (Prod.mk.inj h).2 (by decide)
     · rw [hr] at h
       obtain ⟨hm,hb,rfl⟩:=finN_ok h;refine ⟨hexp,?_,hb,.inl ⟨⟨?_,?_⟩,rfl,rfl,rfl,rfl,rfl⟩⟩
       · rcases hs with ⟨_,h1,h2⟩ | ⟨h0,h1,h2⟩
         · exact .inl ⟨h1,h2⟩
         · refine .inr ⟨h1,h2,?_⟩
           show sci=false
           rw [decide_eq_true h0,Bool.true_or,Bool.and_true] at hm;exact hm
       · show 1≤plain.countP a64
         obtain ⟨c,hc,hac⟩:=List.any_eq_true.1 ha;exact List.countP_pos_iff.2 ⟨c,hc,hac⟩
       · show plain.countP a64≤(plain.dropWhile h35).length
         rw [countP_drop h35_a64];exact List.countP_le_length
   · rw [hp,if_pos rfl] at h; exact absurd (Prod.mk.inj h).2 (by decide)
theorem dw_nil {A:Nat→Bool} {l:List Nat} (h:∀ x ∈ l,A x=true):l.dropWhile A=[]:=by
 induction l with
 | nil=>rfl
 | cons x t ih=>rw [List.dropWhile_cons,if_pos (h x (List.mem_cons_self ..))]; exact ih fun y hy=>h y (List.mem_cons_of_mem _ hy)
theorem dnA_none {c:Nat} {l:List Nat} (h:l.any (· == c)=false):dnA c l=[]:=by
 rw [dnA,dw_nil]; rfl
 intro x hx
 have:=List.any_eq_false.1 h x hx
 simpa using this
theorem numB_ok {body:List Nat} {sci:Bool} {me:Nat} {plus:Bool} {p:NF} (h:numB body sci me plus=(p,0)) (hexp:(sci=true∧1≤me∧me≤9)∨(sci=false∧me=0∧plus=false)) :
 body.all okB=true∧numW (upA 46 body) (dnA 46 body) (body.any (· == 46)) sci me plus=(p,0)∧OkN p:=by
 unfold numB at h
 cases ho:body.all okB
 · rw [ho] at h; exact absurd (Prod.mk.inj h).2 (by decide)
 · rw [ho,if_neg (by decide)] at h
   refine ⟨rfl,h,?_⟩;unfold numW at h
   split at h
   · exact absurd (Prod.mk.inj h).2 (by decide)
   · split at h
     · exact absurd (Prod.mk.inj h).2 (by decide)
     · split at h
       · exact absurd (Prod.mk.inj h).2 (by decide)
       · rename_i hz
         split at h
         · exact absurd (Prod.mk.inj h).2 (by decide)
         · rename_i he
           refine numP_ok h (fun hl=>?_) (fun e=>he (by rw [e]; rfl)) dnA_none hexp;rw [decide_eq_true hl,Bool.true_and] at hz;exact Bool.eq_false_iff.2 hz
theorem expZ_ok {e:List Nat} (h:(expZ e).1=0):1≤(expZ e).2.1∧(expZ e).2.1≤9:=by
 unfold expZ at h ⊢
 split at h
 · exact absurd h (by decide)
 · rename_i h1
   split at h
   · exact absurd h (by decide)
   · rename_i h2
     rw [if_neg h1,if_neg h2];simp only [Bool.or_eq_true,not_or] at h1;have:expT e≠[]:=fun e'=>h1.1 (by rw [e']; rfl)
     have:=List.length_pos_iff.2 this;exact ⟨this,Nat.le_of_not_lt h2⟩
theorem tw_split {c:Nat} {a b:List Nat} (h:∀ x ∈ a,x≠c):upA c (a++c :: b)=a∧dnA c (a++c :: b)=b:=by
 have h':∀ x ∈ a,(x != c)=true:=fun x hx=>by simpa using h x hx
 constructor
 · rw [upA,List.takeWhile_append_of_pos h',List.takeWhile_cons_of_neg (by simp),List.append_nil]
 · rw [dnA,List.dropWhile_append_of_pos h',List.dropWhile_cons_of_neg (by simp)]; rfl
theorem tw_all {c:Nat} {a:List Nat} (h:∀ x ∈ a,x≠c):upA c a=a∧dnA c a=[]∧a.any (· == c)=false:=by
 have h':∀ x ∈ a,(x != c)=true:=fun x hx=>by simpa using h x hx
 refine ⟨?_,?_,any_false fun x hx=>by simpa using h x hx⟩
 · have:=List.takeWhile_append_of_pos (l₂:=[]) h'
   simpa [upA] using this
 · rw [dnA,dw_nil h']; rfl
theorem dw_app {A:Nat→Bool} {a b:List Nat} (h:∀ x ∈ a,A x=true):(a++b).dropWhile A=b.dropWhile A:=List.dropWhile_append_of_pos h
theorem dw_head {A:Nat→Bool} {l:List Nat} (h:∀ c,l.head? = some c→A c=false):l.dropWhile A=l:=by
 cases l with
 | nil=>rfl
 | cons x t=>rw [List.dropWhile_cons_of_neg]; rw [h x rfl]; decide
theorem numW_form {whole frac:List Nat} {point:Bool} {sci:Bool} {me:Nat} {plus:Bool} {p:NF} (h:numW whole frac point sci me plus=(p,0)) :
 (1 < (spl whole 0).length→(spl whole 0).any (· == 0)=false)∧pln whole++frac≠[]∧numP (pln whole) frac point (spl whole 0) sci me plus=(p,0):=by
 unfold numW at h
 split at h
 · exact absurd (Prod.mk.inj h).2 (by decide)
 · split at h
   · exact absurd (Prod.mk.inj h).2 (by decide)
   · split at h
     · exact absurd (Prod.mk.inj h).2 (by decide)
     · rename_i hz
       split at h
       · exact absurd (Prod.mk.inj h).2 (by decide)
       · rename_i he
         refine ⟨fun hl=>?_,fun e=>he (by rw [e]; rfl),h⟩;rw [decide_eq_true hl,Bool.true_and] at hz;exact Bool.eq_false_iff.2 hz
theorem spl_len (l:List Nat):∀ k,l.length+1=(pln l).length+(spl l k).length:=by
 induction l with
 | nil=>intro k; rfl
 | cons c t ih=>
  intro k
  by_cases hc:c=44
  · subst hc
    rw [pln_comma,spl,if_pos rfl,List.length_cons,List.length_cons,ih 0]; omega
  · rw [pln_cons_ne hc,spl,if_neg hc,List.length_cons,List.length_cons,ih (k+1)]; omega
theorem spl_pos (l:List Nat):∀ k,1≤(spl l k).length:=by
 induction l with
 | nil=>intro k; exact Nat.le_refl _
 | cons c t ih=>
  intro k;rw [spl]; split
  · rw [List.length_cons]; omega
  · exact ih _
theorem cut_none {c:Nat} {l:List Nat} (h:l.any (· == c)=false):upA c l=l:=by
 have h':∀ x ∈ l,(x != c)=true:=fun x hx=>by have:=List.any_eq_false.1 h x hx; simpa using this
 have:=List.takeWhile_append_of_pos (l₂:=[]) h'
 simpa [upA] using this
open Go.RowKit
open Lib (hid)
theorem beqN (a b:Nat):(((a:Nat):Int) == ((b:Nat):Int))=decide (a=b):=by
 by_cases h:a=b
 · subst h; simp
 · rw [decide_eq_false h,beq_eq_false_iff_ne]; omega
theorem qHK {s:ByteArray} {k:Nat} (hk:k < s.size):∃ hl:k < (bts s).length,(bts s)[k]=s[k].toNat:=by
 have hl:k < (bts s).length:=by rw [qA0]; exact hk
 refine ⟨hl,?_⟩
 have:=qBA s k hk
 rwa [List.getD,List.getElem?_eq_getElem hl] at this
theorem qFM {s:ByteArray} {k:Nat} (hk:k < s.size):bts s=(bts s).take k++s[k].toNat :: (bts s).drop (k+1):=by
 obtain ⟨hl,e⟩:=qHK hk
 conv=>lhs; rw [← List.take_append_drop k (bts s),List.drop_eq_getElem_cons hl,e]
theorem qAH {s:ByteArray} {k:Nat} (hk:k < s.size):(bts s).take (k+1)=(bts s).take k++[s[k].toNat]:=by
 obtain ⟨hl,e⟩:=qHK hk
 rw [List.take_succ_eq_append_getElem hl,e]
theorem qB1 (s:ByteArray):(bts s).take s.size=bts s:=List.take_of_length_le (by rw [qA0]; exact Nat.le_refl _)
set_option maxHeartbeats 1000000 in
theorem refCut_c (s:ByteArray) (c:Nat) (w:World) (hs:s.size≤10000000000):Calls Try.prog 29 #[.string s,.int .u8 (c:Int)] w fun e w'=>
 e=.returned (.tuple #[.string (stz (upA c (bts s))),.string (stz (dnA c (bts s))),.bool ((bts s).any (· == c))])∧∃ m,w'=w.drewN m:=by
 go_enter Try.func29,Try.ntmps29
 go_wp2
 go_loopw [7] (fun iv wr=>∃ k:Nat,k≤s.size∧iv=.int .i64 (k:Int)∧wr=w∧∀ x ∈ (bts s).take k,x≠c) (fun iv _=>s.size - (intOf iv).toNat)
 case atStart=>exact ⟨0,Nat.zero_le _,rfl,rfl,fun x hx=>by simp at hx⟩
 case round=>
  obtain ⟨k,hk,rfl,rfl,hall0⟩:=hrel;have HA:=hid hall0;clear hall0
  by_cases hlt:k < s.size
  · have HSP:=hid (qFM hlt)
    have HTS:=hid (qAH hlt)
    by_cases hc:s[k].toNat=c
    · have g1:(((s[k].toNat:Nat):Int) == (c:Int))=true:=by rw [beqN]; exact decide_eq_true hc
      have HC:=hid hc;have HV:=hid (show stz (upA c (bts s))=s.extract 0 k∧stz (dnA c (bts s))=s.extract (k+1) s.size∧(bts s).any (· == c)=true by
       have e:=HSP.out;rw [hc] at e;obtain ⟨e1,e2⟩:=tw_split (b:=(bts s).drop (k+1)) HA.out;refine ⟨(qHD ?_).symm,(qHD ?_).symm,?_⟩
       · rw [qE6,e,e1,← e]
       · rw [qDL,e,e2,← e]
       · rw [e]; simp)
      clear hc
      go_wp2
      go_quiet (fail)
      go_wp2
      go_ret3
      rw [HV.out.1,HV.out.2.1,HV.out.2.2];exact ⟨rfl,_,rfl⟩
    · have g1:(((s[k].toNat:Nat):Int) == (c:Int))=false:=by rw [beqN]; exact decide_eq_false hc
      have HC:=hid hc;clear hc
      go_wp2
      go_roundw
      case rel=>
       refine ⟨k+1,by omega,by go_num,by first | trivial | rfl,fun x hx=>?_⟩;rw [HTS.out] at hx
       rcases List.mem_append.1 hx with hx | hx
       · exact HA.out x hx
       · rw [List.mem_singleton] at hx; subst hx; exact HC.out
      case measure=>simp [intOf]; omega
  · have hke:k=s.size:=by omega
    subst hke;rw [qB1] at HA;have HV:=hid (tw_all HA.out)
    go_wp2
    go_ret3
    rw [HV.out.1,HV.out.2.1,HV.out.2.2,stz_bts];exact ⟨rfl,0,rfl⟩
theorem z48_iff {x:Nat}:z48 x=true↔x=48:=by simp [z48]
theorem qCP {s:ByteArray} {k:Nat} (hk:k < s.size):(bts s).drop k=s[k].toNat :: (bts s).drop (k+1):=by
 obtain ⟨hl,e⟩:=qHK hk
 rw [List.drop_eq_getElem_cons hl,e]
theorem strip_at {s:ByteArray} {k:Nat} (hk:k < s.size) (ha:∀ x ∈ (bts s).take k,z48 x=true) (hn:s[k].toNat≠48):(bts s).dropWhile z48=(bts s).drop k:=by
 conv=>lhs; rw [← List.take_append_drop k (bts s)]
 rw [dw_app ha,qCP hk,dw_head]
 intro c hc
 rw [List.head?_cons] at hc
 cases hc
 rw [Bool.eq_false_iff]
 exact fun e=>hn (z48_iff.1 e)
set_option maxHeartbeats 1000000 in
theorem qD7 (s:ByteArray) (w:World) (hs:s.size≤10000000000):Calls Try.prog 30 #[.string s] w fun e w'=>
 e=.returned (.string (stz ((bts s).dropWhile z48)))∧w=w':=by
 go_enter Try.func30,Try.ntmps30
 go_wp2
 go_loopw [0] (fun sv wr=>∃ (k:Nat) (t:ByteArray),k≤s.size∧sv=.string t∧bts t=(bts s).drop k∧wr=w∧∀ x ∈ (bts s).take k,z48 x=true) (fun sv _=>match sv with | .string t=>t.size | _=>0)
 case atStart=>exact ⟨0,s,Nat.zero_le _,rfl,by simp,rfl,fun x hx=>by simp at hx⟩
 case round=>
  obtain ⟨k,t,hk,rfl,ht0,rfl,hall0⟩:=hrel;have HT:=hid ht0;have HA:=hid hall0;have hts:t.size+k=s.size:=by
   have:=congrArg List.length ht0;rw [qA0,List.length_drop,qA0] at this;omega
  clear hall0 ht0
  by_cases h0:0 < t.size
  · have g0:decide ((0:Int) < (t.size:Int))=true:=decide_eq_true (by omega)
    have hks:k < s.size:=by omega
    have hx:t[0].toNat=s[k].toNat:=by
     obtain ⟨h1,e1⟩:=qHK h0;obtain ⟨h2,e2⟩:=qHK hks;rw [← e1,← e2];have e:=congrArg (fun l=>l[0]?) HT.out;rw [List.getElem?_drop,List.getElem?_eq_getElem h1,List.getElem?_eq_getElem (by omega)] at e
     simpa using e
    have HSP:=hid (qFM hks);have HTS:=hid (qAH hks)
    by_cases hz:t[0].toNat=48
    · have g1:(((t[0].toNat:Nat):Int) == 48)=true:=by simp only [beq_iff_eq]; omega
      have HZ:=hid (show s[k].toNat=48 by omega);clear hz hx
      go_wp2
      go_roundw
      case rel=>
       refine ⟨k+1,_,by omega,rfl,?_,by first | trivial | rfl,fun x hx=>?_⟩
       · rw [qDL,HT.out,List.drop_drop]
       · rw [HTS.out] at hx
         rcases List.mem_append.1 hx with hx | hx
         · exact HA.out x hx
         · rw [List.mem_singleton] at hx; subst hx; exact z48_iff.2 HZ.out
      case measure=>
       show (t.extract 1 t.size).size < t.size
       rw [ByteArray.size_extract]; omega
    · have g1:(((t[0].toNat:Nat):Int) == 48)=false:=by simp only [beq_eq_false_iff_ne,ne_eq]; omega
      have HV:=hid (show stz ((bts s).dropWhile z48)=t from (qHD (by rw [strip_at hks HA.out (by omega),HT.out])).symm);clear hz hx
      go_wp2
      go_ret
      rw [HV.out];exact ⟨rfl,rfl⟩
  · have g0:decide ((0:Int) < (t.size:Int))=false:=decide_eq_false (by omega)
    have hke:k=s.size:=by omega
    subst hke;rw [qB1] at HA;have HV:=hid (show stz ((bts s).dropWhile z48)=t by
     refine (qHD ?_).symm;rw [dw_nil HA.out,HT.out,List.drop_of_length_le (by rw [qA0]; exact Nat.le_refl _)])
    go_wp2
    go_ret
    rw [HV.out];exact ⟨rfl,rfl⟩
def clsC (c x:Nat):Bool:=x == c || (c == 48 && dg x)
theorem qD8:clsC 48=dg:=by
 funext x
 by_cases h:x=48
 · subst h; rfl
 · simp [clsC,h]
theorem qC9 {c:Nat} (h:c≠48):clsC c=(· == c):=by funext x; simp [clsC,h]
theorem dg_iff {x:Nat}:dg x=true↔48≤x∧x≤57:=by simp [dg]
theorem take_count {s:ByteArray} {k:Nat} (hk:k < s.size) (A:Nat→Bool):((bts s).take (k+1)).countP A=((bts s).take k).countP A+(if A s[k].toNat then 1 else 0):=by
 rw [qAH hk,List.countP_append,List.countP_singleton]
set_option maxHeartbeats 1000000 in
theorem qAV (s:ByteArray) (c:Nat) (w:World) (hs:s.size≤10000000000):Calls Try.prog 31 #[.string s,.int .u8 (c:Int)] w fun e w'=>
 e=.returned (.int .i64 (((bts s).countP (clsC c):Nat):Int))∧w=w':=by
 go_enter Try.func31,Try.ntmps31
 go_wp2
 go_loopw [5,6] (fun nv iv wr=>∃ k n:Nat,k≤s.size∧n≤k∧iv=.int .i64 (k:Int)∧nv=.int .i64 (n:Int)∧n=((bts s).take k).countP (clsC c)∧wr=w) (fun _ iv _=>s.size - (intOf iv).toNat)
 case atStart=>exact ⟨0,0,Nat.zero_le _,Nat.zero_le _,rfl,rfl,rfl,rfl⟩
 case round=>
  obtain ⟨k,n,hk,hnk,rfl,rfl,hn0,rfl⟩:=hrel;have HN:=hid hn0;clear hn0
  by_cases hlt:k < s.size
  · have HTC:=hid (take_count hlt (clsC c))
    by_cases h1:s[k].toNat=c
    · have g1:(((s[k].toNat:Nat):Int) == (c:Int))=true:=by rw [beqN]; exact decide_eq_true h1
      have HC:=hid (show clsC c s[k].toNat=true by rw [h1]; simp [clsC]);clear h1
      go_wp2
      go_roundw
      case rel=>exact ⟨k+1,n+1,by omega,by omega,by go_num,by go_num,by rw [HTC.out,HC.out,← HN.out]; rfl,by first | trivial | rfl⟩
      case measure=>simp [intOf]; omega
    · have g1:(((s[k].toNat:Nat):Int) == (c:Int))=false:=by rw [beqN]; exact decide_eq_false h1
      by_cases h2:c=48
      · subst h2
        have g1':(((s[k].toNat:Nat):Int) == 48)=false:=g1;clear g1
        by_cases h3:48≤s[k].toNat
        · have g3:decide ((48:Int)≤((s[k].toNat:Nat):Int))=true:=decide_eq_true (by omega)
          by_cases h4:s[k].toNat≤57
          · have g4:decide (((s[k].toNat:Nat):Int)≤57)=true:=decide_eq_true (by omega)
            have HC:=hid (show clsC 48 s[k].toNat=true by rw [qD8]; exact dg_iff.2 ⟨h3,h4⟩);clear h1 h3 h4
            go_wp2
            go_roundw
            case rel=>exact ⟨k+1,n+1,by omega,by omega,by go_num,by go_num,by rw [HTC.out,HC.out,← HN.out]; rfl,by first | trivial | rfl⟩
            case measure=>simp [intOf]; omega
          · have g4:decide (((s[k].toNat:Nat):Int)≤57)=false:=decide_eq_false (by omega)
            have HC:=hid (show clsC 48 s[k].toNat=false by rw [qD8,Bool.eq_false_iff]; intro e; have:=dg_iff.1 e; omega);clear h1 h3 h4
            go_wp2
            go_roundw
            case rel=>exact ⟨k+1,n,by omega,by omega,by go_num,rfl,by rw [HTC.out,HC.out,← HN.out]; rfl,by first | trivial | rfl⟩
            case measure=>simp [intOf]; omega
        · have g3:decide ((48:Int)≤((s[k].toNat:Nat):Int))=false:=decide_eq_false (by omega)
          have HC:=hid (show clsC 48 s[k].toNat=false by rw [qD8,Bool.eq_false_iff]; intro e; have:=dg_iff.1 e; omega);clear h1 h3
          go_wp2
          go_roundw
          case rel=>exact ⟨k+1,n,by omega,by omega,by go_num,rfl,by rw [HTC.out,HC.out,← HN.out]; rfl,by first | trivial | rfl⟩
          case measure=>simp [intOf]; omega
      · have g2:((c:Int) == 48)=false:=by simp only [beq_eq_false_iff_ne,ne_eq]; omega
        have HC:=hid (show clsC c s[k].toNat=false by rw [qC9 h2]; simpa using h1);clear h1 h2
        go_wp2
        go_roundw
        case rel=>exact ⟨k+1,n,by omega,by omega,by go_num,rfl,by rw [HTC.out,HC.out,← HN.out]; rfl,by first | trivial | rfl⟩
        case measure=>simp [intOf]; omega
  · have hke:k=s.size:=by omega
    subst hke;rw [qB1] at HN
    go_wp2
    go_ret
    rw [← HN.out];exact ⟨rfl,rfl⟩
def rkZ (A B C:Nat→Bool) (k:Nat) (l:List Nat):Bool:=
 if k=0 then qBV A B C l else if k=1 then ((l.dropWhile B).dropWhile C).isEmpty else if k=2 then (l.dropWhile C).isEmpty else l.isEmpty
def rcZ (a b c:Nat) (k:Nat):Nat:=if k=0 then a else if k=1 then b else c
theorem rk_take {a b c k x:Nat} {t:List Nat} (h:clsC (rcZ a b c k) x=true) (hk:k < 3):rkZ (clsC a) (clsC b) (clsC c) k (x :: t)=rkZ (clsC a) (clsC b) (clsC c) k t:=by
 have:k=0∨k=1∨k=2:=by omega
 rcases this with rfl | rfl | rfl
 · have h:clsC a x=true:=h
   show (((List.dropWhile (clsC a) (x :: t)).dropWhile (clsC b)).dropWhile (clsC c)).isEmpty=(((List.dropWhile (clsC a) t).dropWhile (clsC b)).dropWhile (clsC c)).isEmpty
   rw [List.dropWhile_cons,if_pos h]
 · have h:clsC b x=true:=h
   show ((List.dropWhile (clsC b) (x :: t)).dropWhile (clsC c)).isEmpty=((List.dropWhile (clsC b) t).dropWhile (clsC c)).isEmpty
   rw [List.dropWhile_cons,if_pos h]
 · have h:clsC c x=true:=h
   show (List.dropWhile (clsC c) (x :: t)).isEmpty=(List.dropWhile (clsC c) t).isEmpty
   rw [List.dropWhile_cons,if_pos h]
theorem rk_next {a b c k x:Nat} {t:List Nat} (h:clsC (rcZ a b c k) x=false) (hk:k < 3):rkZ (clsC a) (clsC b) (clsC c) k (x :: t)=rkZ (clsC a) (clsC b) (clsC c) (k+1) (x :: t):=by
 have:k=0∨k=1∨k=2:=by omega
 rcases this with rfl | rfl | rfl
 · have h:¬ clsC a x=true:=by have h:clsC a x=false:=h; rw [h]; decide
   show (((List.dropWhile (clsC a) (x :: t)).dropWhile (clsC b)).dropWhile (clsC c)).isEmpty=((List.dropWhile (clsC b) (x :: t)).dropWhile (clsC c)).isEmpty
   rw [List.dropWhile_cons,if_neg h]
 · have h:¬ clsC b x=true:=by have h:clsC b x=false:=h; rw [h]; decide
   show ((List.dropWhile (clsC b) (x :: t)).dropWhile (clsC c)).isEmpty=(List.dropWhile (clsC c) (x :: t)).isEmpty
   rw [List.dropWhile_cons,if_neg h]
 · have h:¬ clsC c x=true:=by have h:clsC c x=false:=h; rw [h]; decide
   show (List.dropWhile (clsC c) (x :: t)).isEmpty=(x :: t).isEmpty
   rw [List.dropWhile_cons,if_neg h]
theorem rk_nil (a b c k:Nat):rkZ (clsC a) (clsC b) (clsC c) k []=true:=by
 unfold rkZ; repeat' split
 all_goals rfl
theorem rc_at (W:World) (a b c:Nat) (T:TypeId) {k:Nat} (hk:k < 3):(W.alloc (.cells #[.int .u8 (a:Int),.int .u8 (b:Int),.int .u8 (c:Int)] T)).cell? ⟨W.heap.size,k,none⟩=some (.int .u8 (rcZ a b c k:Nat)):=by
 have:k=0∨k=1∨k=2:=by omega
 rcases this with rfl | rfl | rfl <;> rw [cell_of_row _ W.heap.size _ _ _ _ (heap_alloc_new W _)] <;> rfl
set_option maxHeartbeats 1000000 in
theorem qFN (s:ByteArray) (a b c:Nat) (w:World) (hs:s.size≤10000000000):Calls Try.prog 32 #[.string s,.int .u8 (a:Int),.int .u8 (b:Int),.int .u8 (c:Int)] w fun e w'=>
 e=.returned (.bool (qBV (clsC a) (clsC b) (clsC c) (bts s)))∧Below w.heap.size w w':=by
 have BA:=hid ((Below.refl _ w).alloc (Nat.le_refl _) (.cells #[.int .u8 (a:Int),.int .u8 (b:Int),.int .u8 (c:Int)] 5))
 have HRC:=hid (fun k hk=>rc_at w a b c 5 (k:=k) hk)
 go_enter Try.func32,Try.ntmps32
 go_wp2
 generalize hW:w.alloc (.cells #[.int .u8 (a:Int),.int .u8 (b:Int),.int .u8 (c:Int)] 5)=W at *
 clear hW
 go_loopw [10,11] (fun kv iv wr=>∃ i k m:Nat,i≤s.size∧k≤2∧iv=.int .i64 (i:Int)∧kv=.int .i64 (k:Int)∧wr=W.drewN m∧qBV (clsC a) (clsC b) (clsC c) (bts s)=rkZ (clsC a) (clsC b) (clsC c) k ((bts s).drop i)) (fun _ iv _=>s.size - (intOf iv).toNat)
 case atStart=>exact ⟨0,0,0,Nat.zero_le _,Nat.zero_le _,rfl,rfl,rfl,rfl⟩
 case round=>
  obtain ⟨i,k,m,hi,hk,rfl,rfl,rfl,hq0⟩:=hrel;have HQ:=hid hq0;clear hq0
  by_cases hlt:i < s.size
  · have HD:=hid (qCP hlt)
    have hez:(s.extract i (i+1)).size=1:=by rw [ByteArray.size_extract]; omega
    have HE:Hid (∀ y W',Calls Try.prog 31 #[.string (s.extract i (i+1)),.int .u8 ((y:Nat):Int)] W' fun e w'=>e=.returned (.int .i64 (if clsC y s[i].toNat then 1 else 0))∧W'=w'):=hid fun y W'=>by
     have hC:=qAV (s.extract i (i+1)) y W' (by omega);have e:bts (s.extract i (i+1))=[s[i].toNat]:=by
      rw [qCO,qAH hlt,List.drop_append_of_le_length (by rw [List.length_take,qA0]; omega),List.drop_eq_nil_of_le (by rw [List.length_take,qA0]; omega),List.nil_append]
     rw [e,List.countP_singleton] at hC;refine hC.mono ?_;rintro r w' ⟨rfl,rfl⟩;refine ⟨?_,rfl⟩
     cases clsC y s[i].toNat <;> rfl
    clear hez
    go_wp2
    go_loopw [10] (fun kv wr=>∃ k m:Nat,k≤3∧kv=.int .i64 (k:Int)∧wr=W.drewN m∧qBV (clsC a) (clsC b) (clsC c) (bts s)=rkZ (clsC a) (clsC b) (clsC c) k ((bts s).drop i)) (fun kv _=>3 - (intOf kv).toNat)
    case atStart=>exact ⟨k,m,by omega,rfl,rfl,HQ.out⟩
    case round=>
     clear HQ hk;obtain ⟨k,m,hk,rfl,rfl,hq0⟩:=hrel;have HQ:=hid hq0;clear hq0
     by_cases hk3:k < 3
     · have g0:decide ((k:Int) < 3)=true:=decide_eq_true (by omega)
       have hc:=HRC.out k hk3;have HC:=hid (HE.out (rcZ a b c k));have HTK:=hid (fun (h:clsC (rcZ a b c k) s[i].toNat=true)=>rk_take (a:=a) (b:=b) (c:=c) (x:=s[i].toNat) (t:=(bts s).drop (i+1)) h hk3);have HNX:=hid (fun (h:clsC (rcZ a b c k) s[i].toNat=false)=>rk_next (a:=a) (b:=b) (c:=c) (x:=s[i].toNat) (t:=(bts s).drop (i+1)) h hk3);generalize rcZ a b c k=y at *
       rcases hcl:clsC y s[i].toNat with _ | _
       · rw [hcl] at HC
         have HR:=hid (HQ.out.trans (by rw [HD.out,HNX.out hcl]));clear hcl
         go_wp2
         go_quiet ((go_at_call 31; exact qDP (HC.out _)))
         go_wp2
         go_roundw
         case rel=>exact ⟨k+1,_,by omega,by go_num,rfl,by rw [HR.out,HD.out]⟩
         case measure=>simp [intOf]; omega
       · rw [hcl] at HC
         have HR:=hid (HQ.out.trans (by rw [HD.out,HTK.out hcl]));have g3:((k:Int) == 3)=false:=by simp only [beq_eq_false_iff_ne,ne_eq]; omega
         clear hcl
         go_wp2
         go_quiet ((go_at_call 31; exact qDP (HC.out _)))
         go_wp2
         go_roundw
         case rel=>exact ⟨i+1,k,_,by omega,by omega,by go_num,rfl,rfl,HR.out⟩
         case measure=>simp [intOf]; omega
     · obtain rfl:k=3:=by omega
       have HR:=hid (show qBV (clsC a) (clsC b) (clsC c) (bts s)=false by rw [HQ.out,HD.out]; rfl)
       go_wp2
       go_quiet (fail)
       go_wp2
       go_ret
       rw [HR.out];exact ⟨rfl,BA.out.of_drewN _⟩
  · have hke:i=s.size:=by omega
    subst hke;have HR:=hid (show qBV (clsC a) (clsC b) (clsC c) (bts s)=true by rw [HQ.out,List.drop_of_length_le (by rw [qA0]; exact Nat.le_refl _),rk_nil])
    go_wp2
    go_ret
    rw [HR.out];exact ⟨rfl,BA.out.of_drewN _⟩
end Go.Proofs.Ytohfadegildnaaa
set_option maxRecDepth 100000
namespace Go.Proofs.Ytohfadegildnaaa
open Go.RowKit
def patV (x0 x1 x2 x3 x4:Value) (p:NF) (y0 y1 y2:Value):Array Value:=
 #[x0,x1,x2,x3,x4,.int .i64 (p.minInt:Int),.int .i64 (p.maxInt:Int),.int .i64 (p.minFrac:Int),.int .i64 (p.maxFrac:Int),.int .i64 (p.minSig:Int),.int .i64 (p.maxSig:Int),
  .int .i64 (p.prim:Int),.int .i64 (p.sec:Int),.string (stz p.inc),.bool p.sci,.int .i64 (p.minExp:Int),.bool p.plus,y0,y1,y2]
end Go.Proofs.Ytohfadegildnaaa
