import Derived.Test.YtohfadegildnaaaQMC
set_option linter.all false
set_option maxRecDepth 100000
namespace Go.Proofs.Ytohfadegildnaaa
open Go.RowKit
abbrev El:=Tok × Bool
def plE (c:Int) (e:El):Bool:=!e.2 && (!e.1.2.1 && decide (e.1.1=c))
def bdC (r:Int):Bool:=decide ((48≤r∧r≤57)∨r=35∨r=64∨r=44∨r=46)
def bdy (e:El):Bool:=!e.2 && (!e.1.2.1 && bdC e.1.1)
def stT (t:Tok):Bool:=!t.2.1 && decide (t.1=42)
theorem bdC_mrk (r:Int):bdC r=(mrk r && (decide (r≠59) && decide (r≠42))):=by
 rw [Bool.eq_iff_iff,Bool.and_eq_true,mrk_iff,Bool.and_eq_true,decide_eq_true_iff,decide_eq_true_iff,bdC,decide_eq_true_iff]
 omega
def elsL:List Tok→List El
 | []=>[]
 | [t]=>if stT t then [] else [(t,false)]
 | t :: u :: l=>if stT t then ((u.1,false,t.2.2),true) :: elsL l else (t,false) :: elsL (u :: l)
def elsB:List Tok→Option Int
 | []=>none
 | [t]=>if stT t then some t.2.2 else none
 | t :: u :: l=>if stT t then elsB l else elsB (u :: l)
theorem qGQ {t:Tok} (h:stT t=false) (l:List Tok):elsL (t :: l)=(t,false) :: elsL l:=by
 cases l with
 | nil=>simp [elsL,h]
 | cons u l=>rw [elsL,if_neg (by rw [h]; decide)]
theorem elsB_no {t:Tok} (h:stT t=false) (l:List Tok):elsB (t :: l)=elsB l:=by
 cases l with
 | nil=>simp [elsB,h]
 | cons u l=>rw [elsB,if_neg (by rw [h]; decide)]
theorem qGR {t:Tok} (h:stT t=true) (u:Tok) (l:List Tok):elsL (t :: u :: l)=((u.1,false,t.2.2),true) :: elsL l:=by rw [elsL,if_pos h]
theorem elsB_st {t:Tok} (h:stT t=true) (u:Tok) (l:List Tok):elsB (t :: u :: l)=elsB l:=by rw [elsB,if_pos h]
theorem qGS {t:Tok} (h:stT t=true):elsB [t]=some t.2.2:=by rw [elsB,if_pos h]
theorem elsL_end {t:Tok} (h:stT t=true):elsL [t]=[]:=by rw [elsL,if_pos h]
theorem qGT {P:List Tok→Prop} (h0:P []) (h1:∀ t l,stT t=false→P l→P (t :: l)) (h2:∀ t,stT t=true→P [t]) (h3:∀ t u l,stT t=true→P l→P (t :: u :: l)) (l:List Tok):P l:=by
 have:∀ n (l:List Tok),l.length≤n→P l:=by
  intro n
  induction n with
  | zero=>intro l hl; obtain rfl:=List.eq_nil_of_length_eq_zero (Nat.le_zero.1 hl); exact h0
  | succ n ih=>
   intro l hl
   match l with
   | []=>exact h0
   | [t]=>
    cases ht:stT t with
    | false=>exact h1 _ _ ht h0
    | true=>exact h2 _ ht
   | t :: u :: l=>
    cases ht:stT t with
    | false=>exact h1 _ _ ht (ih _ (by simp at hl ⊢; omega))
    | true=>exact h3 _ _ _ ht (ih _ (by simp at hl ⊢; omega))
 exact this _ l (Nat.le_refl _)
def bhd (l:List El):List El:=
 match l.dropWhile bdy with
 | []=>[]
 | e :: b=>if plE 69 e then (match b with
  | []=>[]
  | f :: c=>if plE 43 f then c.dropWhile bdy else (f :: c).dropWhile bdy) else e :: b
def hpre (l:List El):List El:=l.takeWhile fun e=>!bdy e
def hrst (l:List El):List El:=l.dropWhile fun e=>!bdy e
def hsuf (l:List El):List El:=bhd (hrst l)
def hnum (l:List El):List El:=(hrst l).take ((hrst l).length - (hsuf l).length)
theorem qG3 (l:List El):bhd l <:+ l:=by
 unfold bhd
 have h:=List.dropWhile_suffix bdy (l:=l)
 split
 · exact List.nil_suffix
 · rename_i e b he
   rw [he] at h
   split
   · split
     · exact List.nil_suffix
     · rename_i f c
       split
       · exact ((List.dropWhile_suffix bdy (l:=c)).trans ((List.suffix_cons f c).trans (List.suffix_cons e _))).trans h
       · exact ((List.dropWhile_suffix bdy (l:=f :: c)).trans (List.suffix_cons e _)).trans h
   · exact h
theorem hrst_num (l:List El):hrst l=hnum l++hsuf l:=by
 obtain ⟨t,ht⟩:=qG3 (hrst l)
 have e:(hrst l).length - (bhd (hrst l)).length=t.length:=by rw [← congrArg List.length ht,List.length_append]; omega
 have e2:(hrst l).take t.length=t:=by
  rw [← ht];exact List.take_left' rfl
 rw [hnum,hsuf,e,e2,ht]
theorem qBD (l:List El):l=hpre l++(hnum l++hsuf l):=by
 rw [← hrst_num,hpre,hrst,List.takeWhile_append_dropWhile]
def whr (first:Bool) (n en len i:Nat):Int:=if first=false then 0 else if i=0 then 1 else if i+1=n then 2 else if i=en then 3 else if i+1=len then 4 else 0
def padR (W:Nat→Int):Nat→List El→Int→Int→(Int × Int) × Int × Int
 | _,[],a,r=>((a,r),0,0)
 | i,e :: l,a,r=>if e.2 then (if W i=0∨a≠0 then ((0,0),7,e.1.2.2) else padR W (i+1) l (W i) e.1.1) else padR W (i+1) l a r
def padZ (first:Bool) (l:List El):(Int × Int) × Int × Int:=padR (whr first (hpre l).length ((hpre l).length+(hnum l).length) l.length) 0 l 0 0
def tksE (l:List El):List Tok:=(l.filter fun e=>!e.2).map (·.1)
def chE (l:List El):List Nat:=l.map fun e=>e.1.1.toNat
structure Hf where
 pre:List Itm:=[]
 suf:List Itm:=[]
 num:NF:={}
 at_:Int:=0
 pad:Int:=0
 long:Nat:=0
def Hf.wid (a:Hf):Nat:=if a.at_≠0 then a.pre.length+a.long+a.suf.length else 0
def halfZ (first:Bool) (begin:Int) (l:List El):Hf × Int × Int:=
 match hnum l with
 | []=>({},4,begin)
 | e :: _=>
  if (padZ first l).2.1≠0 then ({},(padZ first l).2) else
  if (itms (tksE (hpre l))).2.1≠0 then ({},(itms (tksE (hpre l))).2) else
  if (numZ (chE (hnum l))).2≠0 then ({},((numZ (chE (hnum l))).2:Int),e.1.2.2) else
  if (itms (tksE (hsuf l))).2.1≠0 then ({},(itms (tksE (hsuf l))).2) else
  (⟨(itms (tksE (hpre l))).1,(itms (tksE (hsuf l))).1,(numZ (chE (hnum l))).1,(padZ first l).1.1,(padZ first l).1.2,(hnum l).length⟩,0,0)
structure Pt where
 pre:List Itm:=[]
 suf:List Itm:=[]
 neg:Bool:=false
 npre:List Itm:=[]
 nsuf:List Itm:=[]
 num:NF:={}
 at_:Int:=0
 pad:Int:=0
 width:Nat:=0
def Pt.has (p:Pt) (k:Int):Bool:=p.pre.any (fun i=>decide (i.1=k)) || (p.suf.any (fun i=>decide (i.1=k)) || (p.npre.any (fun i=>decide (i.1=k)) || p.nsuf.any (fun i=>decide (i.1=k))))
def Pt.mix (p:Pt):Pt × Int × Int:=if p.has 4 && p.has 5 then ({},6,0) else (p,0,0)
def smi (e:El):Bool:=plE 59 e
def qA4 (es:List El):List El:=es.takeWhile fun e=>!smi e
def qBE (es:List El):List El:=es.dropWhile fun e=>!smi e
def one16 (a:Hf):Pt:={ pre:=a.pre,suf:=a.suf,npre:=(2,0) :: a.pre,nsuf:=a.suf,num:=a.num,at_:=a.at_,pad:=a.pad,width:=a.wid }
def two16 (a b:Hf):Pt:={ one16 a with neg:=true,npre:=b.pre,nsuf:=b.suf }
def qC0 (es:List El):Pt × Int × Int:=
 match qBE es with
 | []=>if (halfZ true 0 (qA4 es)).2.1≠0 then ({},(halfZ true 0 (qA4 es)).2) else (one16 (halfZ true 0 (qA4 es)).1).mix
 | e :: r=>
  match qBE r with
  | f :: _=>({},4,f.1.2.2)
  | []=>
   if (halfZ true 0 (qA4 es)).2.1≠0 then ({},(halfZ true 0 (qA4 es)).2) else
   if (halfZ false (e.1.2.2+1) r).2.1≠0 then ({},(halfZ false (e.1.2.2+1) r).2) else
   (two16 (halfZ true 0 (qA4 es)).1 (halfZ false (e.1.2.2+1) r).1).mix
def compZ (l:List Nat):Pt × Int × Int:=
 if (toks l).2.1≠0 then ({},(toks l).2) else
 match elsB (toks l).1 with
 | some a=>({},7,a)
 | none=>qC0 (elsL (toks l).1)
def nmb2 (b:List El):List El:=match b with
 | []=>[]
 | f :: c=>if plE 43 f then f :: c.takeWhile bdy else (f :: c).takeWhile bdy
def nmb (l:List El):List El:=l.takeWhile bdy++(match l.dropWhile bdy with
 | []=>[]
 | e :: b=>if plE 69 e then e :: nmb2 b else [])
theorem nmb_bhd (l:List El):nmb l++bhd l=l:=by
 unfold nmb bhd
 conv=>rhs; rw [← List.takeWhile_append_dropWhile (p:=bdy) (l:=l)]
 rw [List.append_assoc]
 congr 1
 cases l.dropWhile bdy with
 | nil=>rfl
 | cons e b=>
  dsimp only
  cases plE 69 e
  · rfl
  · simp only [if_true]
    cases b with
    | nil=>rfl
    | cons f c=>
     unfold nmb2;dsimp only
     cases plE 43 f
     · simp only [Bool.false_eq_true,if_false]
       rw [List.cons_append,List.takeWhile_append_dropWhile]
     · simp only [if_true]
       rw [List.cons_append,List.cons_append,List.takeWhile_append_dropWhile]
theorem hnum_nmb (l:List El):hnum l=nmb (hrst l):=by
 have h1:=hrst_num l
 have h2:=nmb_bhd (hrst l)
 rw [hsuf] at h1
 have h3:hnum l++bhd (hrst l)=nmb (hrst l)++bhd (hrst l):=by rw [← h1,h2]
 exact List.append_cancel_right h3
theorem plE_iff {c:Int} {e:El}:plE c e=true↔e.2=false∧e.1.2.1=false∧e.1.1=c:=by
 simp [plE]
theorem bdy_iff {e:El}:bdy e=true↔e.2=false∧e.1.2.1=false∧bdC e.1.1=true:=by
 simp [bdy]
theorem tw_mem {α:Type} {p:α→Bool} {l:List α} {x:α} (h:x ∈ l.takeWhile p):p x=true:=by
 have:=List.all_takeWhile (p:=p) (l:=l)
 exact List.all_eq_true.1 this x h
theorem bdC_lt {r:Int} (h:bdC r=true):0≤r∧r < 128:=by
 rw [bdC,decide_eq_true_iff] at h; omega
theorem nmb_low (l:List El):∀ e ∈ nmb l,e.2=false∧e.1.2.1=false∧0≤e.1.1∧e.1.1 < 128:=by
 have hb:∀ (m:List El) (e:El),e ∈ m.takeWhile bdy→e.2=false∧e.1.2.1=false∧0≤e.1.1∧e.1.1 < 128:=by
  intro m e he;obtain ⟨h1,h2,h3⟩:=bdy_iff.1 (tw_mem he);exact ⟨h1,h2,(bdC_lt h3).1,(bdC_lt h3).2⟩
 have hp:∀ (c:Int) (e:El),plE c e=true→0≤c→c < 128→e.2=false∧e.1.2.1=false∧0≤e.1.1∧e.1.1 < 128:=by
  intro c e h h0 h1;obtain ⟨a,b,rfl⟩:=plE_iff.1 h;exact ⟨a,b,h0,h1⟩
 intro e he
 unfold nmb at he
 rcases List.mem_append.1 he with he | he
 · exact hb _ _ he
 · split at he
   · simp at he
   · rename_i d b _
     split at he
     · rename_i h69
       rcases List.mem_cons.1 he with rfl | he
       · exact hp _ _ h69 (by omega) (by omega)
       · unfold nmb2 at he
         split at he
         · simp at he
         · split at he
           · rename_i h43
             rcases List.mem_cons.1 he with rfl | he
             · exact hp _ _ h43 (by omega) (by omega)
             · exact hb _ _ he
           · exact hb _ _ he
     · simp at he
theorem qE8 (l:List El):∀ e ∈ hnum l,e.2=false∧e.1.2.1=false∧0≤e.1.1∧e.1.1 < 128:=by
 rw [hnum_nmb]; exact nmb_low _
theorem chE_lt (l:List El):∀ c ∈ chE (hnum l),c < 256:=by
 intro c hc
 obtain ⟨e,he,rfl⟩:=List.mem_map.1 hc
 have:=qE8 l e he
 omega
theorem scn_strict (cs:List Nat):∀ (a:Nat) (o:Int),∀ t ∈ (scn cs a o).1,(a:Int)≤t.2.2∧t.2.2+1≤(a:Int)+(encs cs).length:=by
 induction cs using tok_ind with
 | h0=>intro a o t ht; simp [scn_nil] at ht
 | h2 cs ih=>
  intro a o t ht;have e:(encs (39 :: 39 :: cs)).length=2+(encs cs).length:=by
   rw [qAC,qAC,List.length_append,List.length_append]
   show 1+(1+_)=_
   omega
  rw [e];rw [qGL] at ht
  rcases List.mem_cons.1 ht with rfl | ht
  · refine ⟨?_,?_⟩ <;> dsimp only <;> omega
  · have:=ih _ _ t ht; omega
 | h1 cs hh ih=>
  intro a o t ht;have e:(encs (39 :: cs)).length=1+(encs cs).length:=by
   rw [qAC,List.length_append];rfl
  rw [e];rw [qFF hh] at ht;have:=ih _ _ t ht; omega
 | he c cs hc ih=>
  intro a o t ht;have e:(encs (c :: cs)).length=(encN c).length+(encs cs).length:=by rw [qAC,List.length_append]
  have h1:=qBG c;rw [e];rw [qF1 hc] at ht
  rcases List.mem_cons.1 ht with rfl | ht
  · refine ⟨?_,?_⟩ <;> dsimp only <;> omega
  · have:=ih _ _ t ht; omega
theorem toks_at {l:List Nat} (hl:∀ b ∈ l,b < 256):∀ t ∈ (toks l).1,0≤t.2.2∧t.2.2+1≤(l.length:Int):=by
 intro t ht
 unfold toks at ht
 split at ht
 · simp at ht
 · rename_i h1
   split at ht
   · simp at ht
   · split at ht
     · simp at ht
     · have h:=scn_strict _ _ _ t ht
       have e:=qCE hl (by simpa using h1);rw [← e] at h;omega
theorem toks_fault {l:List Nat} (hl:∀ b ∈ l,b < 256):((toks l).2.1=0→(toks l).2.2=0)∧0≤(toks l).2.2∧(toks l).2.2≤(l.length:Int):=by
 unfold toks
 split
 · rename_i h
   have h1:=badZ_range hl;have h2:¬ badZ l < 0:=fun e=>h (qF0.1 e)
   exact ⟨fun e=>by simp at e,by dsimp only; omega,h1.2⟩
 · rename_i h1
   have e:=qCE hl (by simpa using h1);have hr:=(scn_range (cps l) 0 (-1) (by omega) (by omega)).1;rw [← e] at hr
   split
   · exact ⟨fun e=>by simp at e,by assumption,by have:=hr.2; dsimp only; omega⟩
   · split
     · exact ⟨fun _=>rfl,by simp,by simp⟩
     · exact ⟨fun _=>rfl,by simp,by simp⟩
theorem elsL_mem (ts:List Tok):∀ e ∈ elsL ts,(∃ t ∈ ts,e.1.2.2=t.2.2)∧∃ t ∈ ts,e.1.1=t.1:=by
 refine qGT (P:=fun ts=>∀ e ∈ elsL ts,(∃ t ∈ ts,e.1.2.2=t.2.2)∧∃ t ∈ ts,e.1.1=t.1) ?_ ?_ ?_ ?_ ts
 · intro e he; simp [elsL] at he
 · intro t l h ih e he
   rw [qGQ h] at he
   rcases List.mem_cons.1 he with rfl | he
   · exact ⟨⟨t,by simp,rfl⟩,t,by simp,rfl⟩
   · obtain ⟨⟨u,hu,e1⟩,v,hv,e2⟩:=ih e he
     exact ⟨⟨u,List.mem_cons_of_mem _ hu,e1⟩,v,List.mem_cons_of_mem _ hv,e2⟩
 · intro t h e he; rw [elsL_end h] at he; simp at he
 · intro t u l h ih e he
   rw [qGR h] at he
   rcases List.mem_cons.1 he with rfl | he
   · exact ⟨⟨t,by simp,rfl⟩,u,by simp,rfl⟩
   · obtain ⟨⟨u',hu,e1⟩,v,hv,e2⟩:=ih e he
     exact ⟨⟨u',List.mem_cons_of_mem _ (List.mem_cons_of_mem _ hu),e1⟩,v,List.mem_cons_of_mem _ (List.mem_cons_of_mem _ hv),e2⟩
theorem elsB_mem (ts:List Tok):∀ a,elsB ts=some a→∃ t ∈ ts,a=t.2.2:=by
 refine qGT (P:=fun ts=>∀ a,elsB ts=some a→∃ t ∈ ts,a=t.2.2) ?_ ?_ ?_ ?_ ts
 · intro a h; simp [elsB] at h
 · intro t l h ih a ha
   rw [elsB_no h] at ha;obtain ⟨u,hu,e⟩:=ih a ha;exact ⟨u,List.mem_cons_of_mem _ hu,e⟩
 · intro t h a ha
   rw [qGS h] at ha;exact ⟨t,by simp,(Option.some.inj ha).symm⟩
 · intro t u l h ih a ha
   rw [elsB_st h] at ha;obtain ⟨v,hv,e⟩:=ih a ha;exact ⟨v,List.mem_cons_of_mem _ (List.mem_cons_of_mem _ hv),e⟩
theorem padR_mem (W:Nat→Int) (l:List El):∀ i a r,((padR W i l a r).2.1=0→(padR W i l a r).2.2=0)∧((padR W i l a r).2.1≠0→∃ e ∈ l,(padR W i l a r).2.2=e.1.2.2):=by
 induction l with
 | nil=>intro i a r; exact ⟨fun _=>rfl,fun h=>absurd rfl h⟩
 | cons e l ih=>
  intro i a r;unfold padR
  split
  · split
    · exact ⟨fun h=>by simp at h,fun _=>⟨e,by simp,rfl⟩⟩
    · obtain ⟨h1,h2⟩:=ih (i+1) (W i) e.1.1
      exact ⟨h1,fun h=>by obtain ⟨x,hx,e'⟩:=h2 h; exact ⟨x,List.mem_cons_of_mem _ hx,e'⟩⟩
  · obtain ⟨h1,h2⟩:=ih (i+1) a r
    exact ⟨h1,fun h=>by obtain ⟨x,hx,e'⟩:=h2 h; exact ⟨x,List.mem_cons_of_mem _ hx,e'⟩⟩
theorem itms_mem (ts:List Tok):((itms ts).2.1=0→(itms ts).2.2=0)∧((itms ts).2.1≠0→(itms ts).2.2=0∨∃ t ∈ ts,(itms ts).2.2=t.2.2):=by
 unfold itms
 split
 · rename_i t h
   exact ⟨fun e=>by simp at e,fun _=>.inr ⟨t,List.mem_of_find?_eq_some h,rfl⟩⟩
 · split
   · exact ⟨fun e=>by simp at e,fun _=>.inl rfl⟩
   · exact ⟨fun _=>rfl,fun h=>absurd rfl h⟩
theorem qGU {l:List El} {t:Tok} (h:t ∈ tksE l):∃ e ∈ l,e.1=t:=by
 obtain ⟨e,he,e2⟩:=List.mem_map.1 h
 exact ⟨e,(List.mem_filter.1 he).1,e2⟩
theorem qGV {l:List El} {e:El} (h:e ∈ hpre l):e ∈ l:=(List.takeWhile_prefix _).subset h
theorem hrst_mem {l:List El} {e:El} (h:e ∈ hrst l):e ∈ l:=(List.dropWhile_suffix _).subset h
theorem qGW {l:List El} {e:El} (h:e ∈ hsuf l):e ∈ l:=hrst_mem ((qG3 _).subset h)
theorem hnum_mem {l:List El} {e:El} (h:e ∈ hnum l):e ∈ l:=hrst_mem (List.mem_of_mem_take h)
theorem qE9 (first:Bool) (b:Int) (l:List El):((halfZ first b l).2.1=0→(halfZ first b l).2.2=0) ∧
 ((halfZ first b l).2.1≠0→(halfZ first b l).2.2=b∨(halfZ first b l).2.2=0∨∃ e ∈ l,(halfZ first b l).2.2=e.1.2.2):=by
 unfold halfZ
 split
 · exact ⟨fun h=>by simp at h,fun _=>.inl rfl⟩
 · rename_i e es hn
   split
   · rename_i h
     refine ⟨fun h'=>absurd h' h,fun _=>?_⟩;obtain ⟨x,hx,e'⟩:=(padR_mem _ l 0 0 0).2 h;exact .inr (.inr ⟨x,hx,e'⟩)
   · split
     · rename_i h
       refine ⟨fun h'=>absurd h' h,fun _=>?_⟩
       rcases (itms_mem _).2 h with h' | ⟨t,ht,e'⟩
       · exact .inr (.inl h')
       · obtain ⟨x,hx,rfl⟩:=qGU ht
         exact .inr (.inr ⟨x,qGV hx,e'⟩)
     · split
       · rename_i h
         refine ⟨fun h'=>absurd h' (by simpa using h),fun _=>?_⟩;exact .inr (.inr ⟨e,hnum_mem (by rw [hn]; simp),rfl⟩)
       · split
         · rename_i h
           refine ⟨fun h'=>absurd h' h,fun _=>?_⟩
           rcases (itms_mem _).2 h with h' | ⟨t,ht,e'⟩
           · exact .inr (.inl h')
           · obtain ⟨x,hx,rfl⟩:=qGU ht
             exact .inr (.inr ⟨x,qGW hx,e'⟩)
         · exact ⟨fun _=>rfl,fun h=>absurd rfl h⟩
theorem qHL (p:Pt):p.mix.2.2=0∧(p.mix.2.1≠0→p.mix.1={}):=by
 unfold Pt.mix
 split
 · exact ⟨rfl,fun _=>rfl⟩
 · exact ⟨rfl,fun h=>absurd rfl h⟩
theorem compE_fault (es:List El) (N:Int) (hN:0≤N) (h:∀ e ∈ es,0≤e.1.2.2∧e.1.2.2+1≤N) :
 ((qC0 es).2.1=0→(qC0 es).2.2=0)∧((qC0 es).2.1≠0→(qC0 es).1={})∧0≤(qC0 es).2.2∧(qC0 es).2.2≤N:=by
 have hf:∀ e ∈ qA4 es,e ∈ es:=fun e he=>(List.takeWhile_prefix _).subset he
 have hs:∀ e ∈ qBE es,e ∈ es:=fun e he=>(List.dropWhile_suffix _).subset he
 have hH:∀ (f:Bool) (b:Int) (l:List El),(∀ e ∈ l,e ∈ es)→0≤b→b≤N→(halfZ f b l).2.1≠0→0≤(halfZ f b l).2.2∧(halfZ f b l).2.2≤N:=by
  intro f b l hl hb0 hbN he
  rcases (qE9 f b l).2 he with e | e | ⟨x,hx,e⟩
  · rw [e]; exact ⟨hb0,hbN⟩
  · rw [e]; exact ⟨by omega,hN⟩
  · rw [e]; have:=h x (hl x hx); omega
 unfold qC0
 split
 · split
   · rename_i he
     refine ⟨fun e=>absurd e he,fun _=>rfl,?_⟩;exact hH _ _ _ hf (by omega) hN he
   · obtain ⟨m1,m2⟩:=qHL (one16 (halfZ true 0 (qA4 es)).1)
     exact ⟨fun _=>m1,m2,by rw [m1]; omega,by rw [m1]; exact hN⟩
 · rename_i e r her
   have hre:e ∈ es:=hs e (by rw [her]; simp);have hr:∀ x ∈ r,x ∈ es:=fun x hx=>hs x (by rw [her]; exact List.mem_cons_of_mem _ hx)
   have he0:=h e hre
   split
   · rename_i f fs hfr
     have:f ∈ es:=hr f ((List.dropWhile_suffix _).subset (show f ∈ qBE r by rw [hfr]; simp));have:=h f this;exact ⟨fun e=>by simp at e,fun _=>rfl,by dsimp only; omega,by dsimp only; omega⟩
   · split
     · rename_i he
       refine ⟨fun e=>absurd e he,fun _=>rfl,?_⟩;exact hH _ _ _ hf (by omega) hN he
     · split
       · rename_i he
         refine ⟨fun e=>absurd e he,fun _=>rfl,?_⟩;exact hH _ _ _ hr (by omega) (by omega) he
       · obtain ⟨m1,m2⟩:=qHL (two16 (halfZ true 0 (qA4 es)).1 (halfZ false (e.1.2.2+1) r).1)
         exact ⟨fun _=>m1,m2,by rw [m1]; omega,by rw [m1]; exact hN⟩
theorem qCS {l:List Nat} (hl:∀ b ∈ l,b < 256) :
 ((compZ l).2.1=0→(compZ l).2.2=0)∧((compZ l).2.1≠0→(compZ l).1={})∧0≤(compZ l).2.2∧(compZ l).2.2≤(l.length:Int):=by
 have ha:=toks_at hl
 unfold compZ
 split
 · rename_i h
   obtain ⟨h1,h2,h3⟩:=toks_fault hl;exact ⟨h1,fun _=>rfl,h2,h3⟩
 · split
   · rename_i a hb
     obtain ⟨t,ht,rfl⟩:=elsB_mem _ _ hb;have:=ha t ht;exact ⟨fun e=>by simp at e,fun _=>rfl,by dsimp only; omega,by dsimp only; omega⟩
   · refine compE_fault _ _ (by omega) fun e he=>?_
     obtain ⟨⟨t,ht,e'⟩,-⟩:=elsL_mem _ e he;rw [e']; exact ha t ht
def elR (t:El):List Value:=[.int .i32 t.1.1,.bool t.1.2.1,.int .i64 t.1.2.2,.bool t.2]
def elsR (ts:List El):List Value:=ts.flatMap elR
theorem qFO (t:El) (ts:List El):elsR (t :: ts)=elR t++elsR ts:=rfl
theorem qBY (ts:List El):(elsR ts).length=ts.length * 4:=by
 induction ts with
 | nil=>rfl
 | cons t ts ih=>rw [qFO,List.length_append,ih]; simp only [elR,List.length_cons,List.length_nil]; omega
theorem qE0 (ts us:List El):elsR (ts++us)=elsR ts++elsR us:=by simp [elsR]
theorem elsR_one (t:El):elsR [t]=elR t:=by simp [elsR]
def el4 (ts:List El) (k:Nat):El:=ts.getD k ((0,false,0),false)
theorem qBZ {ts:List El} {k:Nat} (h:k < ts.length):el4 ts k=ts[k]:=by simp [el4,List.getD,List.getElem?_eq_getElem h]
theorem qF3 (ts:List El):∀ (k j:Nat),k < ts.length→j < 4→(elsR ts)[k * 4+j]? = (elR (el4 ts k))[j]?:=by
 induction ts with
 | nil=>intro k j h _; simp at h
 | cons t ts ih=>
  intro k j h hj
  cases k with
  | zero=>
   rw [qFO,List.getElem?_append_left (by show _ < 4; omega)];simp [el4]
  | succ k=>
   rw [qFO,List.getElem?_append_right (by show 4≤_; omega)];rw [show (k+1) * 4+j - (elR t).length=k * 4+j by show _ - 4=_; omega,ih k j (by simpa using h) hj];simp [el4]
def Rls (w:World) (A:Option Addr) (n:Nat) (ts:List El):Prop:=qAZ w w.heap.size 4 A n (elsR ts)∧n≤36000000000000∧∀ t ∈ ts,R32 t.1
section
variable {w w':World} {n:Nat} {A:Option Addr} {ts:List El}
theorem Rls.len (h:Rls w A n ts):ts.length=n:=by have:=h.1.1; rw [qBY] at this; omega
theorem Rls.below (h:Rls w A n ts) (hb:Below w.heap.size w w'):Rls w' A n ts:=⟨(h.1.below hb).more hb.size,h.2⟩
theorem Rls.at_ {k:Nat} (h:Rls w A n ts) (hk:k < n):∃ ad,A=some ad∧ad.block < w.heap.size∧w.cell? (ad.add (k * 4))=some (.int .i32 (el4 ts k).1.1)∧w.cell? ⟨(ad.add (k * 4)).block,(ad.add (k * 4)).off+1,none⟩=some (.bool (el4 ts k).1.2.1) ∧
 w.cell? ⟨(ad.add (k * 4)).block,(ad.add (k * 4)).off+2,none⟩=some (.int .i64 (el4 ts k).1.2.2)∧w.cell? ⟨(ad.add (k * 4)).block,(ad.add (k * 4)).off+3,none⟩=some (.bool (el4 ts k).2)∧R32 (el4 ts k).1:=by
 obtain ⟨ad,e,hb,hc⟩:=h.1.2 (by omega)
 have hl:k < ts.length:=by rw [h.len]; exact hk
 have f1:=hc (k * 4+1) (.bool (el4 ts k).1.2.1) (by rw [qF3 ts k 1 hl (by omega)]; rfl)
 have f2:=hc (k * 4+2) (.int .i64 (el4 ts k).1.2.2) (by rw [qF3 ts k 2 hl (by omega)]; rfl)
 have f3:=hc (k * 4+3) (.bool (el4 ts k).2) (by rw [qF3 ts k 3 hl (by omega)]; rfl)
 rw [← qDK] at f1 f2 f3
 refine ⟨ad,e,hb,hc (k * 4) _ ?_,f1,f2,f3,?_⟩
 · have:=qF3 ts k 0 hl (by omega); rw [Nat.add_zero] at this; rw [this]; rfl
 · rw [qBZ hl]; exact h.2.2 _ (List.getElem_mem hl)
end
theorem elm_info:(Try.prog.info? 50).map (fun i=>(i.zero,i.size,i.bytes))=some (some (.agg #[.int .i32 0,.bool false,.int .i64 0,.bool false]),4,24):=by kernel_rfl
section
variable {w w':World} {base m c:Nat} {A:Option Addr} {ts:List El}
end
theorem qDS {W w0:World} {ops:Array Oper} {rest:List Oper} {o:Oper} {a:Act} {Q:Exit→Act→World→Prop} (hgd:o.guard=none) (s x:Operand) (t:TypeId)
 (ho:o.op=.call { callee:=.builtin .append,args:=#[s,x],argTypes:=#[t,t] }) (ht:Try.prog.underlying t=some (.slice 50))
 (base:Nat) (v:Value) (k:Nat) (ts:List El) (hs:a.eval s=v) (hown:W.ownsRow base 50 4 v k (elsR ts)) (u:El)
 (hx:a.eval x=.slice (some ⟨W.heap.size,0,none⟩) 1 1) (r:Int) (q:Bool) (p:Int) (pd:Bool) (hu:u=((r,q,p),pd)) (hk:k≤1000000000000) (hb:Below base w0 W) (hbase:base≤W.heap.size)
 (h:∀ v' w',Hid (w'.ownsRow base 50 4 v' (k+1) (elsR (ts++[u])))→Hid (Below base w0 w')→Hid (∀ k,k < W.heap.size→v.ownBlock≠some k→w'.heap[k]? = W.heap[k]?)→wpList Try.prog ops Q rest (a.put o.dst v') w') :
 wpList Try.prog ops Q (o :: rest) a (W.alloc (.cells #[.int .i32 r,.bool q,.int .i64 p,.bool pd] 50)):=by
 obtain ⟨i0,hi,hz0,hz1,hz2⟩:=info_parts elm_info
 subst hu
 refine wpList_append_own _ hgd s x t ho base 50 i0 _ 4 24 ht hi hz0 hz1 hz2 rfl (by decide) v k _ hs (hown.alloc _) ⟨W.heap.size,0,none⟩ 1 1 [.int .i32 r,.bool q,.int .i64 p,.bool pd] hx rfl (qFI W _ _) ?_ ?_ ?_ ?_ ?_
 · intro v hv
   simp only [List.mem_cons,List.not_mem_nil,or_false] at hv
   rcases hv with rfl | rfl | rfl | rfl <;> rfl
 · unfold maxLen; omega
 · omega
 · simp; omega
 · intro v' w' h1 h2 _
   refine h v' w' ?_ ?_ ?_
   · rw [qE0,elsR_one]; exact h1
   · refine (hb.alloc hbase _).grown h2 (by simp; omega) fun j hj=>?_
     exact (hown.lt j hj).1
   · intro k hk hne
     rw [h2.block k (by simp; omega) (fun e=>hne e.symm)]
     show (W.heap.push _)[k]? = _
     rw [Array.getElem?_push_lt hk,Array.getElem?_eq_getElem hk]
def Cp (A:Option Addr) (n c:Nat):Prop:=n≤c∧(A=none→c=0)
theorem Cp.some {a:Addr} {n c:Nat} (h:n≤c):Cp (some a) n c:=⟨h,fun e=>by cases e⟩
theorem Cp.nil:Cp none 0 0:=⟨Nat.le_refl _,fun _=>rfl⟩
section
variable {w w':World} {n D:Nat} {A:Option Addr} {es:List El}
end
section
variable {w w':World} {base m c:Nat} {A:Option Addr} {es:List El}
end
end Go.Proofs.Ytohfadegildnaaa
