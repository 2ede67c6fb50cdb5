import Derived.Shelf.Strings.FuncGrows
import Derived.Shelf.Strings.Replace
import Derived.Shelf.Strings.Repeat
import Derived.Shelf.Strings.LastIndex
import Derived.Shelf.Strings.Prefix
import Derived.Shelf.Strings.Trim
import Derived.WalkMore
import Derived.Deep.Strs
import Derived.Test.YtnoeonaajefajaaGreatDoorQMC
import Derived.Test.YtnoeonaajefajaaGreatDoorQShelf
import Derived.Test.YtnoeonaajefajaaGreatDoorQMB
import Derived.Test.YtnoeonaajefajaaGreatDoorQMV
set_option linter.all false
set_option maxRecDepth 100000
namespace Go.Proofs.YtnoeonaajefajaaGreatDoor
open Go.RowKit
open Lib (hid)
theorem qFR (L:List UInt8):(⟨L.toArray⟩:ByteArray)=stz (L.map UInt8.toNat):=by
 refine qE9 ?_
 simp [bts]
theorem qJD (x c:UInt8):(x == c)=(x.toNat == c.toNat):=by
 rw [Bool.eq_iff_iff,beq_iff_eq,beq_iff_eq,UInt8.toNat_inj]
theorem u8_bne (x c:UInt8):(x != c)=(x.toNat != c.toNat):=by rw [bne,bne,qJD]
theorem mp_count (L:List UInt8) (c:UInt8):Lib.countByte L c=(L.map UInt8.toNat).countP (· == c.toNat):=by
 unfold Lib.countByte List.count
 rw [List.countP_map]
 exact congrArg (fun f=>L.countP f) (funext fun x=>qJD x c)
theorem mp_any (L:List UInt8) (c:UInt8):(L.map UInt8.toNat).any (· == c.toNat)=L.any (· == c):=by
 rw [List.any_map]
 exact congrArg (fun f=>L.any f) (funext fun x=>(qJD x c).symm)
theorem mp_dw (L:List UInt8) (c:UInt8):(L.map UInt8.toNat).dropWhile (· == c.toNat)=(L.dropWhile (· == c)).map UInt8.toNat:=by
 rw [List.dropWhile_map]
 exact congrArg (fun f=>(L.dropWhile f).map UInt8.toNat) (funext fun x=>(qJD x c).symm)
theorem mp_dwn (L:List UInt8) (c:UInt8):(L.map UInt8.toNat).dropWhile (· != c.toNat)=(L.dropWhile (· != c)).map UInt8.toNat:=by
 rw [List.dropWhile_map]
 exact congrArg (fun f=>(L.dropWhile f).map UInt8.toNat) (funext fun x=>(u8_bne x c).symm)
theorem mp_tw (L:List UInt8) (c:UInt8):(L.map UInt8.toNat).takeWhile (· != c.toNat)=(L.takeWhile (· != c)).map UInt8.toNat:=by
 rw [List.takeWhile_map]
 exact congrArg (fun f=>(L.takeWhile f).map UInt8.toNat) (funext fun x=>(u8_bne x c).symm)
theorem mp_filter (L:List UInt8) (c:UInt8):(L.map UInt8.toNat).filter (· != c.toNat)=(L.filter (· != c)).map UInt8.toNat:=by
 rw [List.filter_map]
 exact congrArg (fun f=>(L.filter f).map UInt8.toNat) (funext fun x=>(u8_bne x c).symm)
theorem idx_one (c:UInt8):∀ L:List UInt8,Lib.index L [c]=if L.any (· == c) then ((L.takeWhile (· != c)).length:Int) else -1
 | []=>rfl
 | b :: l=>by
  have ih:=idx_one c l;rw [Lib.index]
  by_cases h:b=c
  · subst h
    have h1:([b]:List UInt8).isPrefixOf (b :: l)=true:=by simp [List.isPrefixOf]
    rw [if_pos h1];simp
  · have h1:¬ ([c]:List UInt8).isPrefixOf (b :: l)=true:=by
     intro e;simp only [List.isPrefixOf,Bool.and_true,beq_iff_eq] at e;exact h e.symm
    have h2:(b == c)=false:=by simpa using h
    rw [if_neg h1,ih,List.any_cons,h2,Bool.false_or,List.takeWhile_cons_of_pos (by simp [h]),List.length_cons]
    split
    · rw [if_neg (by simp only [beq_iff_eq]; omega)]; omega
    · rfl
theorem tw_take {A:UInt8→Bool} (L:List UInt8):L.take (L.takeWhile A).length=L.takeWhile A:=by
 conv=>lhs; rw [← List.takeWhile_append_dropWhile (p:=A) (l:=L)]
 rw [List.take_append_of_le_length (by rw [List.takeWhile_append_dropWhile]; exact Nat.le_refl _),List.takeWhile_append_dropWhile,List.take_of_length_le (Nat.le_refl _)]
theorem tw_drop {A:UInt8→Bool} (L:List UInt8):L.drop (L.takeWhile A).length=L.dropWhile A:=by
 induction L with
 | nil=>rfl
 | cons b l ih=>
  by_cases h:A b=true
  · rw [List.takeWhile_cons_of_pos h,List.length_cons,List.drop_succ_cons,ih,List.dropWhile_cons_of_pos h]
  · rw [List.takeWhile_cons_of_neg h,List.dropWhile_cons_of_neg h]; rfl
theorem dw_nil8 {A:UInt8→Bool}:∀ {L:List UInt8},(∀ x ∈ L,A x=true)→L.dropWhile A=[]
 | [],_=>rfl
 | b :: l,h=>by rw [List.dropWhile_cons_of_pos (h b (List.mem_cons_self ..))]; exact dw_nil8 fun x hx=>h x (List.mem_cons_of_mem _ hx)
theorem nil_dw8 {A:UInt8→Bool}:∀ {L:List UInt8},L.dropWhile A=[]→∀ x ∈ L,A x=true
 | [],_,x,hx=>by cases hx
 | b :: l,h,x,hx=>by
  by_cases hb:A b=true
  · rw [List.dropWhile_cons_of_pos hb] at h
    rcases List.mem_cons.1 hx with rfl | hx
    · exact hb
    · exact nil_dw8 h x hx
  · rw [List.dropWhile_cons_of_neg hb] at h; cases h
theorem cut_one (L:List UInt8) (c:UInt8):(Lib.cut L [c]).1.map UInt8.toNat=upA c.toNat (L.map UInt8.toNat)∧(Lib.cut L [c]).2.1.map UInt8.toNat=dnA c.toNat (L.map UInt8.toNat)∧(Lib.cut L [c]).2.2=(L.map UInt8.toNat).any (· == c.toNat):=by
 unfold Lib.cut upA dnA
 rw [mp_tw,mp_dwn,mp_any,idx_one]
 cases h:L.any (· == c)
 · simp only [Bool.false_eq_true,if_false]
   rw [if_neg (by decide)];have hall:∀ x ∈ L,(x != c)=true:=fun x hx=>by have:=List.any_eq_false.1 h x hx; simpa using this
   refine ⟨?_,?_,rfl⟩
   · rw [← List.append_nil (L.takeWhile _),List.append_nil]
     have:=List.takeWhile_append_of_pos (l₂:=[]) hall;simp at this
     show L.map UInt8.toNat=_
     rw [this]
   · rw [dw_nil8 hall]; rfl
 · rw [if_pos rfl,if_pos (by omega)]
   have e:((L.takeWhile (· != c)).length:Int).toNat=(L.takeWhile (· != c)).length:=rfl;refine ⟨?_,?_,rfl⟩
   · show (L.take _).map _=_
     rw [e,tw_take]
   · show (L.drop _).map _=_
     rw [e,show [c].length=1 from rfl,← List.drop_drop,tw_drop,List.map_drop]
def dblC:List Nat→Bool
 | a :: b :: t=>(a == 44 && b == 44) || dblC (b :: t)
 | _=>false
theorem qH8:∀ L:List UInt8,Lib.contains L [44,44]=dblC (L.map UInt8.toNat)
 | []=>rfl
 | [b]=>by
  show decide _=_
  rw [Lib.index,if_neg (by simp [List.isPrefixOf]),Lib.index]; rfl
 | a :: b :: t=>by
  have ih:=qH8 (b :: t);have ih':decide (0≤Lib.index (b :: t) [44,44])=dblC ((b :: t).map UInt8.toNat):=ih
  show decide (0≤Lib.index (a :: b :: t) [44,44])=_
  rw [Lib.index];rw [List.map_cons,List.map_cons,dblC,← List.map_cons,← ih'];have e:([44,44]:List UInt8).isPrefixOf (a :: b :: t)=(a.toNat == 44 && b.toNat == 44):=by
   have e1:=qJD a 44;have e2:=qJD b 44;rw [show (44:UInt8).toNat=44 from rfl] at e1 e2;rw [← e1,← e2];simp only [List.isPrefixOf,Bool.and_true];rw [BEq.comm (a:=(44:UInt8)) (b:=a),BEq.comm (a:=(44:UInt8)) (b:=b)]
  rw [e];have hge:=Lib.index_ge (b :: t) [44,44]
  cases (a.toNat == 44 && b.toNat == 44)
  · rw [if_neg (by decide),Bool.false_or]
    split
    · rename_i h
      rw [beq_iff_eq] at h;rw [h]
    · rename_i h
      have h:¬ Lib.index (b :: t) [44,44]=-1:=by simpa using h
      rw [decide_eq_true (by omega),decide_eq_true (by omega)]
  · rw [if_pos rfl,Bool.true_or]
    decide
theorem qGZ (L:List UInt8) (c:UInt8):Lib.hasPrefix L [c]=decide ((L.map UInt8.toNat).head? = some c.toNat):=by
 unfold Lib.hasPrefix
 cases L with
 | nil=>rfl
 | cons b l=>
  rw [Bool.eq_iff_iff];simp only [List.isPrefixOf,Bool.and_true,beq_iff_eq,List.map_cons,List.head?_cons,decide_eq_true_iff,Option.some.injEq,UInt8.toNat_inj]
  constructor <;> exact fun e=>e.symm
theorem suffix_one (L:List UInt8) (c:UInt8):Lib.hasSuffix L [c]=decide ((L.map UInt8.toNat).getLast? = some c.toNat):=by
 unfold Lib.hasSuffix
 rw [List.getLast?_eq_head?_reverse,← List.map_reverse]
 have:=qGZ L.reverse c
 unfold Lib.hasPrefix at this
 rw [← this]; rfl
theorem trimP_one (L:List UInt8) (c:UInt8):(Lib.trimPrefix L [c]).map UInt8.toNat=(L.map UInt8.toNat).drop (if (L.map UInt8.toNat).head? = some c.toNat then 1 else 0):=by
 unfold Lib.trimPrefix
 rw [qGZ]
 by_cases h:(L.map UInt8.toNat).head? = some c.toNat
 · rw [if_pos (decide_eq_true h),if_pos h,List.map_drop]; rfl
 · rw [if_neg (by rw [decide_eq_false h]; decide),if_neg h]; rfl
theorem trimL_one (L:List UInt8) (c:UInt8):(Lib.trimLeftB L c).map UInt8.toNat=(L.map UInt8.toNat).dropWhile (· == c.toNat):=by
 rw [mp_dw]; rfl
theorem trimR_one (L:List UInt8) (c:UInt8):(Lib.trimRightB L c).map UInt8.toNat=((L.map UInt8.toNat).reverse.dropWhile (· == c.toNat)).reverse:=by
 rw [← List.map_reverse,mp_dw,← List.map_reverse]; rfl
theorem repl_one (c:UInt8):∀ (L:List UInt8) (k:Nat),L.count c≤k→Lib.replaceK [c] [] k L=L.filter (· != c):=by
 intro L
 induction h:L.length using Nat.strongRecOn generalizing L with
 | _ n ih=>
  intro k hk
  cases k with
  | zero=>
   rw [Lib.replaceK];have:c ∉ L:=List.count_eq_zero.1 (by omega);rw [List.filter_eq_self.2];intro x hx;have:x≠c:=fun e=>this (e ▸ hx)
   simpa using this
  | succ k=>
   rw [Lib.replaceK,idx_one]
   cases ha:L.any (· == c)
   · simp only [Bool.false_eq_true,if_false]
     rw [if_pos (by decide)];refine (List.filter_eq_self.2 fun x hx=>?_).symm;have:=List.any_eq_false.1 ha x hx
     simpa using this
   · rw [if_pos rfl,if_neg (by simp only [beq_iff_eq]; omega)]
     have e:((L.takeWhile (· != c)).length:Int).toNat=(L.takeWhile (· != c)).length:=rfl;rw [e,tw_take,show [c].length=1 from rfl,← List.drop_drop,tw_drop,List.append_nil];obtain ⟨d,t,hdt⟩:∃ d t,L.dropWhile (· != c)=d :: t:=by
      cases hd:L.dropWhile (· != c) with
      | nil=>
       obtain ⟨x,hx,hxc⟩:=List.any_eq_true.1 ha;have:=nil_dw8 hd x hx;rw [bne,hxc] at this
       cases this
      | cons d t=>exact ⟨d,t,rfl⟩
     have hdc:d=c:=by
      have:=List.head?_dropWhile_not (p:=fun x=>x != c) (l:=L);rw [hdt,List.head?_cons] at this
      simpa using this
     subst hdc;have hL:=List.takeWhile_append_dropWhile (p:=fun x=>x != d) (l:=L);rw [hdt] at hL;have hlen:t.length < n:=by
      have:=congrArg List.length hL;rw [List.length_append,List.length_cons] at this;omega
     have hcnt:t.count d≤k:=by
      have h1:L.count d=(L.takeWhile (· != d)++d :: t).count d:=by rw [hL]
      rw [List.count_append,List.count_cons_self] at h1;omega
     rw [hdt,List.drop_succ_cons,List.drop_zero,ih t.length hlen t rfl k hcnt]
     conv=>rhs; rw [← hL]
     rw [List.filter_append,List.filter_cons_of_neg (by simp),List.filter_eq_self.2 fun x hx=>List.all_eq_true.1 List.all_takeWhile x hx]
theorem replA_one (L:List UInt8) (c:UInt8):(Lib.replaceAll L [c] []).map UInt8.toNat=(L.map UInt8.toNat).filter (· != c.toNat):=by
 rw [mp_filter]
 congr 1
 unfold Lib.replaceAll Lib.replace
 rw [if_neg (by simp)]
 refine repl_one c L _ ?_
 unfold Lib.replaceNum
 rw [if_pos (.inl (by decide)),Lib.count_one]
 exact Nat.le_refl _
theorem qJE (c:UInt8):∀ n,(Lib.repeatL [c] n).map UInt8.toNat=List.replicate n c.toNat
 | 0=>rfl
 | n+1=>by rw [Lib.repeatL,List.map_append,qJE c n,List.replicate_succ]; rfl
theorem qLQ (s:ByteArray) (c:Nat):(Lib.lastIndexByte s (c:Int)=-1∧∀ x ∈ bts s,x≠c) ∨
 (∃ i:Nat,i < s.size∧Lib.lastIndexByte s (c:Int)=i∧bts s=(bts s).take i++c :: (bts s).drop (i+1)∧∀ x ∈ (bts s).drop (i+1),x≠c):=by
 have hget:∀ j,j < s.size→(s.data[j]!).toNat=(bts s).getD j 0:=by
  intro j hj;rw [bts_getD]; rfl
 rcases Lib.lastIdx_spec s (c:Int) s.size with ⟨h,hn⟩ | ⟨i,hi,h,hc,hn⟩
 · refine .inl ⟨h,fun x hx=>?_⟩
   obtain ⟨j,hj,e⟩:=List.getElem_of_mem hx;have hj':j < s.size:=by rw [← qA1]; exact hj
   have:=hn j hj';rw [hget j hj',List.getD,List.getElem?_eq_getElem hj,Option.getD_some,e] at this;omega
 · refine .inr ⟨i,hi,h,?_,fun x hx=>?_⟩
   · have e:=qGC hi
     have h1:s[i].toNat=c:=by
      rw [hget i hi,qBQ s i hi] at hc;omega
     rwa [h1] at e
   · obtain ⟨j,hj,e⟩:=List.getElem_of_mem hx
     rw [List.length_drop,qA1] at hj;have hj':i+1+j < s.size:=by omega
     have:=hn (i+1+j) (by omega) hj';rw [hget _ hj',List.getD,List.getElem?_eq_getElem (by rw [qA1]; exact hj'),Option.getD_some] at this;rw [List.getElem_drop] at e;rw [e] at this;omega
theorem dec_lo {l:List Nat} {b:Nat} {t:List Nat} (e:l=b :: t) (h:b < 128):decL l=(b,1):=by
 subst e
 unfold decL
 show Lib.decodeN _ b _ _ _=_
 unfold Lib.decodeN
 rw [if_pos h]
theorem dec_hi {l:List Nat} (hb:∀ b ∈ l,b < 256) {b:Nat} {t:List Nat} (e:l=b :: t) (h:128≤b):128≤(decL l).1∧∀ x ∈ l.take (decL l).2,128≤x:=by
 by_cases h1:decL l=(65533,1)
 · rw [h1,e]
   exact ⟨by decide,fun x hx=>by simp at hx; omega⟩
 · obtain ⟨_,h2,h3⟩:=dec_good hb (by rw [e]; simp) h1
   have h4:(encN (decL l).1).head? = some b:=by
    rw [← h3,e];have:=qCB (decL l).1;rw [h2,e] at this;rw [List.head?_take,if_neg (by omega)]; rfl
   have h5:128≤(decL l).1∧∀ x ∈ encN (decL l).1,128≤x:=by
    rcases qBA (decL l).1 with ⟨c1,c2⟩ | ⟨c0,c1,c2⟩ | ⟨c0,c1,c2⟩ | ⟨c0,c2⟩
    · rw [c2,List.head?_cons] at h4
      cases h4
      omega
    · exact ⟨c0,fun x hx=>by rw [c2] at hx; simp at hx; omega⟩
    · exact ⟨by omega,fun x hx=>by rw [c2] at hx; simp at hx; omega⟩
    · exact ⟨by omega,fun x hx=>by rw [c2] at hx; simp at hx; omega⟩
   rw [h3]; exact h5
theorem qJF {l:List Nat} {pos:Nat} (h:pos < l.length):∃ b t,l.drop pos=b :: t∧l.drop (pos+1)=t:=⟨l[pos],l.drop (pos+1),List.drop_eq_getElem_cons h,rfl⟩
def LoA (A:Nat→Bool):Prop:=∀ c,A c=true→c < 128
theorem LoA.hi {A:Nat→Bool} (h:LoA A) {c:Nat} (hc:128≤c):A c=false:=by
 cases e:A c
 · rfl
 · have:=h c e; omega
theorem idxF_false {A:Nat→Bool} (hA:LoA A) (s:ByteArray):∀ f pos,s.size≤pos+f→pos≤s.size →
 Lib.idxFuncFrom A false s f pos=if ((bts s).drop pos).dropWhile A=[] then -1 else ((s.size - (((bts s).drop pos).dropWhile A).length:Nat):Int):=by
 intro f
 induction f with
 | zero=>
  intro pos h hp;rw [Lib.idxFuncFrom,List.drop_of_length_le (by rw [qA1]; omega)]; rfl
 | succ f ih=>
  intro pos h hp;rw [Lib.idxFuncFrom]
  by_cases hps:pos < s.size
  · rw [if_pos hps,qCN]
    obtain ⟨b,t,e1,e2⟩:=qJF (l:=bts s) (pos:=pos) (by rw [qA1]; exact hps);have hlen:t.length+1+pos=s.size:=by
     have:=congrArg List.length e1;rw [List.length_drop,qA1,List.length_cons] at this;omega
    have hstop:A b=false→(A (decL ((bts s).drop pos)).1=false)→(if A (decL ((bts s).drop pos)).1=false then (pos:Int) else Lib.idxFuncFrom A false s f (pos+(decL ((bts s).drop pos)).2))=if ((bts s).drop pos).dropWhile A=[] then -1 else ((s.size - (((bts s).drop pos).dropWhile A).length:Nat):Int):=by
     intro h1 h2;rw [if_pos h2,e1,List.dropWhile_cons_of_neg (by rw [h1]; decide),if_neg (by simp),List.length_cons]
     congr 1; omega
    by_cases hb:b < 128
    · have hd:=dec_lo e1 hb
      cases hAb:A b
      · exact hstop hAb (by rw [hd]; exact hAb)
      · rw [hd,if_neg (by show ¬ A b=false; rw [hAb]; decide),ih (pos+1) (by omega) (by omega),e2,e1,List.dropWhile_cons_of_pos hAb]
    · exact hstop (hA.hi (by omega)) (hA.hi (dec_hi (qFI s pos) e1 (by omega)).1)
  · rw [if_neg hps,List.drop_of_length_le (by rw [qA1]; omega)]; rfl
theorem qBM (A:Nat→Bool) (l:List Nat):(l.dropWhile A).length≤l.length:=(List.dropWhile_sublist _).length_le
theorem qFA (A:Nat→Bool):∀ l:List Nat,l.drop (l.length - (l.dropWhile A).length)=l.dropWhile A
 | []=>rfl
 | b :: l=>by
  by_cases h:A b=true
  · rw [List.dropWhile_cons_of_pos h,List.length_cons]
    have:=qBM A l;rw [show l.length+1 - (l.dropWhile A).length=(l.length - (l.dropWhile A).length)+1 by omega,List.drop_succ_cons,qFA A l]
  · rw [List.dropWhile_cons_of_neg h,Nat.sub_self]; rfl
theorem trimF_lo {A:Nat→Bool} (hA:LoA A) (s:ByteArray):Lib.trimLeftF A s=stz ((bts s).dropWhile A):=by
 have h:=idxF_false hA s s.size 0 (by omega) (Nat.zero_le _)
 rw [List.drop_zero] at h
 unfold Lib.trimLeftF
 rw [show Lib.idxFunc A false s=Lib.idxFuncFrom A false s s.size 0 from rfl,h]
 by_cases he:(bts s).dropWhile A=[]
 · rw [if_pos he,if_pos rfl,he]; rfl
 · have hl:=qBM A (bts s)
   rw [qA1] at hl;rw [if_neg he,if_neg (by omega)];refine qE9 ?_;rw [qB7];have:=qFA A (bts s);rw [qA1] at this;exact this
theorem idxF_true {A:Nat→Bool} (hA:LoA A) (s:ByteArray):∀ f pos,s.size≤pos+f→decide (0≤Lib.idxFuncFrom A true s f pos)=((bts s).drop pos).any A:=by
 intro f
 induction f with
 | zero=>
  intro pos h;rw [Lib.idxFuncFrom,List.drop_of_length_le (by rw [qA1]; omega)]; rfl
 | succ f ih=>
  intro pos h;rw [Lib.idxFuncFrom]
  by_cases hps:pos < s.size
  · rw [if_pos hps,qCN]
    obtain ⟨b,t,e1,e2⟩:=qJF (l:=bts s) (pos:=pos) (by rw [qA1]; exact hps)
    by_cases hb:b < 128
    · have hd:=dec_lo e1 hb
      cases hAb:A b
      · rw [hd,if_neg (by show ¬ A b=true; rw [hAb]; decide),ih (pos+1) (by omega),e2,e1,List.any_cons,hAb,Bool.false_or]
      · rw [hd,if_pos hAb,e1,List.any_cons,hAb,Bool.true_or,decide_eq_true (by omega)]
    · obtain ⟨h1,h2⟩:=dec_hi (qFI s pos) e1 (by omega)
      have hw:1≤(decL ((bts s).drop pos)).2:=by rw [← qCN]; exact Lib.width_pos s pos
      rw [if_neg (by rw [hA.hi h1]; decide),ih _ (by omega),← List.drop_drop]
      conv=>rhs; rw [← List.take_append_drop (decL ((bts s).drop pos)).2 ((bts s).drop pos),List.any_append]
      rw [qBK fun c hc=>hA.hi (h2 c hc),Bool.false_or]
  · rw [if_neg hps,List.drop_of_length_le (by rw [qA1]; omega)]; rfl
theorem idxF_any {A:Nat→Bool} (hA:LoA A) (s:ByteArray):decide (0≤Lib.idxFunc A true s)=(bts s).any A:=by
 have:=idxF_true hA s s.size 0 (by omega)
 rwa [List.drop_zero] at this
structure Prt where
 main:List Nat
 sci:Bool
 exp:List Nat
 whole:List Nat
 frac:List Nat
 pointed:Bool
 bare:List Nat
def cutP (l:List Nat):Prt:=
 { main:=upA 69 l,sci:=l.any (· == 69),exp:=dnA 69 l,whole:=upA 46 (upA 69 l),frac:=dnA 46 (upA 69 l),pointed:=(upA 69 l).any (· == 46),bare:=pln (upA 46 (upA 69 l)) }
def ab (c:Nat):Bool:=decide (49≤c) && decide (c≤57)
def cntd (n:Prt):Bool:=n.main.any a64
def er1 (n:Prt):Nat:=if n.sci then (if (expT n.exp).isEmpty || !((expT n.exp).dropWhile z48).isEmpty then 4 else if 9 < (expT n.exp).length then 8 else 0) else 0
def er2 (n:Prt):Nat:=if !(n.main.dropWhile okB).isEmpty || n.frac.any (· == 46) || (n.pointed && n.frac.isEmpty) then 4 else 0
def er3 (n:Prt):Nat:=if n.frac.any (· == 44) || decide (n.whole.head? = some 44) || decide (n.whole.getLast? = some 44) || dblC n.whole then 5 else 0
def er4 (n:Prt):Nat:=if n.whole.isEmpty && n.frac.isEmpty then 4 else 0
def er5 (n:Prt):Nat:=if !cntd n then 0 else if n.pointed || n.whole.any dg then 6 else if !qBB h35 a64 h35 n.bare then 4 else 0
def er6 (n:Prt):Nat:=if !cntd n && !(((n.bare.dropWhile h35).dropWhile dg).isEmpty && ((n.frac.dropWhile dg).dropWhile h35).isEmpty) then 4 else 0
def er7 (n:Prt):Nat:=if n.main.any ab && (n.frac.any h35 || n.sci) then 6 else 0
def er8 (n:Prt):Nat:=if n.sci && (n.whole.any (· == 44) || (cntd n && decide (n.whole.head? = some 35))) then 6 else 0
def trR (l:List Nat):List Nat:=(l.reverse.dropWhile h35).reverse
def patP (n:Prt):NF:=
 if cntd n then { minSig:=n.bare.countP a64,maxSig:=(n.bare.dropWhile h35).length,prim:=primZ (spl n.whole 0),sec:=secZ (spl n.whole 0),sci:=n.sci,minExp:=n.exp.countP z48,plus:=decide (n.exp.head? = some 43) }
 else { minInt:=(n.bare.dropWhile h35).length,maxInt:=if n.sci then n.whole.length else 0,minFrac:=(trR n.frac).length,maxFrac:=n.frac.length,prim:=primZ (spl n.whole 0),sec:=secZ (spl n.whole 0),inc:=incZ (n.bare++n.frac),sci:=n.sci,minExp:=n.exp.countP z48,plus:=decide (n.exp.head? = some 43) }
def cntN (p:NF):List Nat:=[p.minInt,p.maxInt,p.minFrac,p.maxFrac,p.minSig,p.maxSig,p.prim,p.sec,p.inc.length,p.minExp]
def er9 (n:Prt):Nat:=if (cntN (patP n)).any (fun k=>decide (40 < k)) then 8 else 0
def fstE:List Nat→Nat
 | []=>0
 | e :: t=>if e=0 then fstE t else e
def stp (n:Prt):List Nat:=[er1 n,er2 n,er3 n,er4 n,er5 n,er6 n,er7 n,er8 n,er9 n]
def prgZ (l:List Nat):NF × Nat:=if fstE (stp (cutP l))=0 then (patP (cutP l),0) else ({},fstE (stp (cutP l)))
theorem qFB {A:Nat→Bool} (l:List Nat):(l.dropWhile A).isEmpty=l.all A:=by
 induction l with
 | nil=>rfl
 | cons x t ih=>
  rw [List.dropWhile_cons,List.all_cons]
  cases A x
  · rfl
  · rw [if_pos rfl,ih]; rfl
theorem er1_exp (n:Prt):er1 n=if n.sci then (expZ n.exp).1 else 0:=by
 unfold er1
 congr 1
 rw [qFB]
 unfold expZ
 repeat' split
 all_goals rfl
theorem pln_any {A:Nat→Bool} (h:A 44=false) (l:List Nat):(pln l).any A=l.any A:=by
 induction l with
 | nil=>rfl
 | cons c t ih=>
  by_cases hc:c=44
  · subst hc; rw [qG7,ih,List.any_cons,h,Bool.false_or]
  · rw [qBS hc,List.any_cons,List.any_cons,ih]
theorem qKK {A:Nat→Bool} (h:A 46=false) (l:List Nat):l.any A=((upA 46 l).any A || (dnA 46 l).any A):=by
 cases hp:l.any (· == 46)
 · rw [qGB hp,qDX hp,List.any_nil,Bool.or_false]
 · obtain ⟨d,t,hdt⟩:∃ d t,l.dropWhile (· != 46)=d :: t:=by
    cases hd:l.dropWhile (· != 46) with
    | nil=>
     obtain ⟨x,hx,hx2⟩:=List.any_eq_true.1 hp;have h1:(l.dropWhile (· != 46)).isEmpty=true:=by rw [hd]; rfl
     rw [qFB] at h1;have:=List.all_eq_true.1 h1 x hx;rw [bne,hx2] at this
     cases this
    | cons d t=>exact ⟨d,t,rfl⟩
   have hd:d=46:=by
    have:=qG9 (A:=(· != 46)) l d (by rw [hdt]; rfl)
    simpa using this
   subst hd
   conv=>lhs; rw [← List.takeWhile_append_dropWhile (p:=(· != 46)) (l:=l),hdt,List.any_append,List.any_cons,h,Bool.false_or]
   rw [upA,dnA,hdt]; rfl
theorem spl_any (W:List Nat):∀ k,(spl W k).any (· == 0)=((k == 0 && (W.isEmpty || decide (W.head? = some 44))) || dblC W || decide (W.getLast? = some 44)):=by
 induction W with
 | nil=>intro k; simp [spl,dblC]
 | cons c t ih=>
  intro k
  by_cases hc:c=44
  · subst hc
    rw [spl,if_pos rfl,List.any_cons,ih]
    cases t with
    | nil=>simp [dblC]
    | cons b t'=>
     have e:dblC (44 :: b :: t')=((b == 44) || dblC (b :: t')):=by rw [dblC]; rfl
     rw [e,List.getLast?_cons_cons];simp only [List.isEmpty_cons,List.head?_cons,Bool.false_or,Option.some.injEq,decide_true,Bool.or_true,Bool.and_true,beq_self_eq_true,Bool.true_and];rw [show decide (b=44)=(b == 44) from rfl];simp only [Bool.or_assoc]
  · rw [spl,if_neg hc,ih]
    have h1:(k+1 == 0)=false:=rfl;have h2:decide (some c=some 44)=false:=by simp [hc]
    rw [h1,List.isEmpty_cons,List.head?_cons,h2]
    cases t with
    | nil=>simp [dblC,hc]
    | cons b t'=>
     have e:dblC (c :: b :: t')=dblC (b :: t'):=by rw [dblC,show (c == 44)=false by simpa using hc]; rfl
     rw [e,List.getLast?_cons_cons];simp only [Bool.false_and,Bool.false_or,Bool.or_false,Bool.and_false]
theorem qKL (W:List Nat):∀ k,decide (1 < (spl W k).length)=W.any (· == 44):=by
 induction W with
 | nil=>intro k; rfl
 | cons c t ih=>
  intro k
  by_cases hc:c=44
  · subst hc
    have:=qGY t 0;rw [spl,if_pos rfl,List.length_cons,List.any_cons];rw [decide_eq_true (by omega)]; rfl
  · rw [spl,if_neg hc,ih,List.any_cons,show (c == 44)=false by simpa using hc,Bool.false_or]
theorem dbl_any (W:List Nat):dblC W=true→W.any (· == 44)=true:=by
 induction W with
 | nil=>intro h; cases h
 | cons c t ih=>
  cases t with
  | nil=>intro h; cases h
  | cons b t'=>
   intro h;rw [dblC,Bool.or_eq_true] at h;rw [List.any_cons,Bool.or_eq_true]
   rcases h with h | h
   · rw [Bool.and_eq_true] at h; exact .inl h.1
   · exact .inr (ih h)
theorem mem_44 {W:List Nat} (h:44 ∈ W):W.any (· == 44)=true:=List.any_eq_true.2 ⟨44,h,rfl⟩
theorem spl_zero (W:List Nat):(decide (1 < (spl W 0).length) && (spl W 0).any (· == 0))=(decide (W.head? = some 44) || decide (W.getLast? = some 44) || dblC W):=by
 rw [qKL,spl_any]
 cases ha:W.any (· == 44)
 · rw [Bool.false_and]
   have h1:dblC W=false:=by
    cases e:dblC W
    · rfl
    · rw [dbl_any W e] at ha; cases ha
   have h2:¬ W.head? = some 44:=fun e=>by rw [mem_44 (List.mem_of_head? e)] at ha; cases ha
   have h3:¬ W.getLast? = some 44:=fun e=>by rw [mem_44 (List.mem_of_getLast? e)] at ha; cases ha
   rw [h1,decide_eq_false h2,decide_eq_false h3]; rfl
 · rw [Bool.true_and]
   have:W.isEmpty=false:=by cases W with
    | nil=>cases ha
    | cons=>rfl
   rw [this,Bool.false_or];simp only [beq_self_eq_true,Bool.true_and];rw [Bool.or_assoc,Bool.or_assoc,Bool.or_comm (dblC W)]
theorem pln_empty {W:List Nat} (h:decide (W.head? = some 44)=false):(pln W).isEmpty=W.isEmpty:=by
 cases W with
 | nil=>rfl
 | cons c t=>
  have hc:c≠44:=by simpa using h
  rw [qBS hc]; rfl
theorem pln_none {W:List Nat} (h:W.any (· == 44)=false):pln W=W:=by
 unfold pln
 refine List.filter_eq_self.2 fun x hx=>?_
 have:=List.any_eq_false.1 h x hx
 simpa using this
theorem count_rows {A B:Nat→Bool} {l:List Nat} (hBA:∀ c,B c=true→A c=false) (h:((l.dropWhile B).dropWhile A).isEmpty=true):l.countP A=(l.dropWhile B).length:=by
 rw [qFB] at h
 rw [qFL hBA]
 exact qCE (List.all_eq_true.1 h)
theorem trR_rows {l:List Nat} (h:((l.dropWhile dg).dropWhile h35).isEmpty=true):(trR l).length=l.countP dg:=by
 rw [qFB] at h
 have hd:(l.dropWhile dg).reverse.dropWhile h35=[]:=qIA fun x hx=>List.all_eq_true.1 h x (List.mem_reverse.1 hx)
 have hall:∀ x ∈ l.takeWhile dg,dg x=true:=List.all_eq_true.1 List.all_takeWhile
 have e:trR l=l.takeWhile dg:=by
  unfold trR
  conv=>lhs; rw [← List.takeWhile_append_dropWhile (p:=dg) (l:=l),List.reverse_append,qH6 fun x hx=>List.all_eq_true.1 h x (List.mem_reverse.1 hx)]
  rw [qDY,List.reverse_reverse];intro c hc;exact (qH7 (hall c (List.mem_reverse.1 (List.mem_of_head? hc)))).1
 rw [e]
 conv=>rhs; rw [← List.takeWhile_append_dropWhile (p:=dg) (l:=l),List.countP_append]
 rw [qCE hall,qDJ fun x hx=>?_,Nat.add_zero]
 have:=List.all_eq_true.1 h x hx
 cases hdx:dg x
 · rfl
 · rw [(qH7 hdx).1] at this; cases this
theorem qKM {A B:Nat→Bool} (l:List Nat):qBB A B B l=((l.dropWhile A).dropWhile B).isEmpty:=by
 unfold qBB
 rw [qDY]
 exact qG9 _
theorem inc_ab {l:List Nat} (h:∀ c ∈ l,h35 c=true∨dg c=true):(!(incZ l).isEmpty)=l.any ab:=by
 unfold incZ
 rw [qFB,List.all_filter]
 induction l with
 | nil=>rfl
 | cons c t ih=>
  rw [List.any_cons,List.all_cons,Bool.not_and,ih fun x hx=>h x (List.mem_cons_of_mem _ hx)]
  congr 1
  rcases h c (List.mem_cons_self ..) with h1 | h1
  · have:c=35:=by simpa [h35] using h1
    subst this; rfl
  · have h2:=(qH7 h1).1
    rw [h2];simp only [dg,Bool.and_eq_true,decide_eq_true_iff] at h1
    by_cases h3:c=48
    · subst h3; rfl
    · have:ab c=true:=by simp only [ab,Bool.and_eq_true,decide_eq_true_iff]; omega
      rw [this];simp [z48,h3]
def resE (n:Prt) (es:List Nat):NF × Nat:=if fstE es=0 then (patP n,0) else ({},fstE es)
theorem qB5 (n:Prt) {e:Nat} (h:e=0) (t:List Nat):resE n (e :: t)=resE n t:=by
 subst h; rfl
theorem qBX (n:Prt) {e k:Nat} (h:e=k+1) (t:List Nat):resE n (e :: t)=({},k+1):=by
 subst h; rfl
theorem h35_iff {x:Nat}:h35 x=true↔x=35:=by simp [h35]
theorem body_num (n:Prt) (hw:n.whole=upA 46 n.main) (hf:n.frac=dnA 46 n.main) (hp:n.pointed=n.main.any (· == 46)) (hb:n.bare=pln n.whole) (hme:n.exp.countP z48≤9) :
 numB n.main n.sci (n.exp.countP z48) (decide (n.exp.head? = some 43))=resE n [er2 n,er3 n,er4 n,er5 n,er6 n,er7 n,er8 n,er9 n]:=by
 have hcm:cntd n=(n.bare++n.frac).any a64:=by
  unfold cntd;rw [qKK (show a64 46=false from rfl),← hw,← hf,List.any_append,hb,pln_any (show a64 44=false from rfl)]
 unfold numB
 cases ho:n.main.all okB
 · rw [qBX n (k:=3) (by unfold er2; rw [qFB,ho]; rfl)]; rfl
 · rw [if_neg (by decide),← hw,← hf,← hp]
   unfold numW;rw [← hb]
   cases h2:(n.frac.any (· == 46) || (n.pointed && n.frac.isEmpty))
   · rw [if_neg (by decide),qB5 n (by unfold er2; rw [qFB,ho,Bool.not_true,Bool.false_or,h2]; rfl)]
     cases h3:n.frac.any (· == 44)
     · rw [if_neg (by decide),spl_zero]
       have h3e:er3 n=if (decide (n.whole.head? = some 44) || decide (n.whole.getLast? = some 44) || dblC n.whole)=true then 5 else 0:=by
        unfold er3; rw [h3,Bool.false_or]
       cases h3':(decide (n.whole.head? = some 44) || decide (n.whole.getLast? = some 44) || dblC n.whole)
       · rw [h3'] at h3e
         rw [if_neg (by decide),qB5 n h3e];have hhd:decide (n.whole.head? = some 44)=false:=by
          simp only [Bool.or_eq_false_iff] at h3';exact h3'.1.1
         have he:(n.bare++n.frac).isEmpty=(n.whole.isEmpty && n.frac.isEmpty):=by
          rw [show (n.bare++n.frac).isEmpty=(n.bare.isEmpty && n.frac.isEmpty) by cases n.bare <;> rfl,hb,pln_empty hhd]
         rw [he]
         cases h4:(n.whole.isEmpty && n.frac.isEmpty)
         · rw [if_neg (by decide),qB5 n (by unfold er4; rw [h4]; rfl)]
           unfold numP;rw [← hcm];have hdw:n.bare.any dg=n.whole.any dg:=by rw [hb,pln_any (show dg 44=false from rfl)]
           cases hc:cntd n
           · rw [if_neg (by decide),qB5 n (by unfold er5; rw [hc]; rfl),qKM,qKM]
             have h6e:er6 n=if (!((n.bare.dropWhile h35).dropWhile dg).isEmpty || !((n.frac.dropWhile dg).dropWhile h35).isEmpty)=true then 4 else 0:=by
              unfold er6; rw [hc,Bool.not_and]; rfl
             cases h6:(!((n.bare.dropWhile h35).dropWhile dg).isEmpty || !((n.frac.dropWhile dg).dropWhile h35).isEmpty)
             · rw [h6] at h6e
               rw [if_neg (by decide),qB5 n h6e];simp only [Bool.or_eq_false_iff,Bool.not_eq_false'] at h6;have hm1:∀ c ∈ n.bare,h35 c=true∨dg c=true:=fun c hc=>by
                rcases qHL (by rw [qKM]; exact h6.1) c hc with h | h | h
                · exact .inl h
                · exact .inr h
                · exact .inr h
               have hm2:∀ c ∈ n.frac,h35 c=true∨dg c=true:=fun c hc=>by
                rcases qHL (by rw [qKM]; exact h6.2) c hc with h | h | h
                · exact .inr h
                · exact .inl h
                · exact .inl h
               have hab:(!(incZ (n.bare++n.frac)).isEmpty)=n.main.any ab:=by
                rw [inc_ab fun c hc=>(List.mem_append.1 hc).elim (hm1 c) (hm2 c),List.any_append,hb,pln_any (show ab 44=false from rfl),qKK (show ab 46=false from rfl) n.main,← hw,← hf]
               have hfr:decide (n.frac.countP dg < n.frac.length)=n.frac.any h35:=by
                cases hx:n.frac.any h35
                · have:=qCE (A:=dg) (l:=n.frac) fun c hc=>(hm2 c hc).resolve_left fun e=>by
                   have:=List.any_eq_false.1 hx c hc;exact this e
                  exact decide_eq_false (by omega)
                · obtain ⟨c,hc,hc2⟩:=List.any_eq_true.1 hx
                  refine decide_eq_true (Nat.lt_of_le_of_ne List.countP_le_length fun e=>?_);have:=List.countP_eq_length.1 e c hc;rw [(qH7 this).1] at hc2
                  cases hc2
               rw [hab,hfr]
               cases h7:(n.main.any ab && (n.frac.any h35 || n.sci))
               · rw [if_neg (by decide),qB5 n (by unfold er7; rw [h7]; rfl),qKL]
                 have h8e:er8 n=if (n.sci && n.whole.any (· == 44))=true then 6 else 0:=by
                  unfold er8; rw [hc,Bool.false_and,Bool.or_false]
                 unfold finN
                 cases h8:(n.sci && n.whole.any (· == 44))
                 · rw [h8] at h8e
                   rw [if_neg (by decide),qB5 n h8e];have hpat:patP n=digN n.bare n.frac (spl n.whole 0) n.sci (n.exp.countP z48) (decide (n.exp.head? = some 43)):=by
                    unfold patP digN;rw [hc,if_neg (by decide),trR_rows h6.2,count_rows (fun c h=>by rw [h35_iff] at h; subst h; rfl) h6.1]
                    congr 1
                    cases hs:n.sci
                    · rfl
                    · rw [hs,Bool.true_and] at h8
                      rw [hb,pln_none h8]
                   have h9:(cntN (patP n)).any (fun k=>decide (40 < k))=bigN (patP n):=by
                    have h1:(patP n).minFrac≤(patP n).maxFrac:=by rw [hpat]; exact List.countP_le_length
                    have h2:(patP n).minSig=0∧(patP n).maxSig=0:=by rw [hpat]; exact ⟨rfl,rfl⟩
                    have h3:(patP n).minExp≤9:=by rw [hpat]; exact hme
                    unfold cntN bigN;simp only [List.any_cons,List.any_nil,Bool.or_false];rw [decide_eq_false (show ¬ 40 < (patP n).minExp by omega),h2.1,h2.2]
                    by_cases h:40 < (patP n).maxFrac
                    · rw [decide_eq_true h]; simp
                    · rw [decide_eq_false h,decide_eq_false (show ¬ 40 < (patP n).minFrac by omega)]
                      simp only [Bool.or_false,Bool.or_assoc,Bool.false_or,Nat.not_lt_zero,decide_false]
                   rw [← hpat,← h9]
                   cases h9':(cntN (patP n)).any (fun k=>decide (40 < k))
                   · rw [if_neg (by decide),qB5 n (by unfold er9; rw [h9']; rfl)]; rfl
                   · rw [if_pos rfl,qBX n (k:=7) (by unfold er9; rw [h9']; rfl)]
                 · rw [h8] at h8e
                   rw [if_pos rfl,qBX n (k:=5) h8e]
               · rw [if_pos rfl,qBX n (k:=5) (by unfold er7; rw [h7]; rfl)]
             · rw [h6] at h6e
               rw [if_pos rfl,qBX n (k:=3) h6e]
           · rw [if_pos rfl,hdw]
             cases h5:(n.pointed || n.whole.any dg)
             · rw [if_neg (by decide)]
               have h5e:er5 n=if (!qBB h35 a64 h35 n.bare)=true then 4 else 0:=by
                unfold er5; rw [hc,h5]; rfl
               cases h5':qBB h35 a64 h35 n.bare
               · rw [h5'] at h5e
                 rw [if_pos (by rfl),qBX n (k:=3) h5e]
               · rw [h5'] at h5e
                 rw [if_neg (by decide),qB5 n h5e,qB5 n (by unfold er6; rw [hc]; rfl)];simp only [Bool.or_eq_false_iff] at h5;have hfn:n.frac=[]:=by rw [hf]; exact qDX (by rw [← hp]; exact h5.1)
                 have hnab:n.main.any ab=false:=by
                  rw [qKK (show ab 46=false from rfl),← hw,← hf,hfn,List.any_nil,Bool.or_false];refine qBK fun c hc=>?_
                  have:=List.any_eq_false.1 h5.2 c hc
                  cases e:ab c
                  · rfl
                  · refine absurd ?_ this
                    simp only [ab,dg,Bool.and_eq_true,decide_eq_true_iff] at e ⊢;omega
                 rw [qB5 n (by unfold er7; rw [hnab]; rfl),qKL];have h8e:er8 n=if (n.sci && (n.whole.any (· == 44) || decide (n.bare.head? = some 35)))=true then 6 else 0:=by
                  unfold er8;rw [hc,Bool.true_and]
                  cases hx:n.whole.any (· == 44)
                  · rw [hb,pln_none hx]
                  · rw [Bool.true_or,Bool.true_or]
                 unfold finN
                 cases h8:(n.sci && (n.whole.any (· == 44) || decide (n.bare.head? = some 35)))
                 · rw [h8] at h8e
                   rw [if_neg (by decide),qB5 n h8e];have hpat:patP n=sigN n.bare (spl n.whole 0) n.sci (n.exp.countP z48) (decide (n.exp.head? = some 43)):=by
                    unfold patP sigN;rw [hc,if_pos rfl]
                   have h9:(cntN (patP n)).any (fun k=>decide (40 < k))=bigN (patP n):=by
                    have h1:(patP n).minSig≤(patP n).maxSig:=by
                     rw [hpat]
                     show n.bare.countP a64≤(n.bare.dropWhile h35).length
                     rw [qFL h35_a64];exact List.countP_le_length
                    have h2:(patP n).minFrac=0:=by rw [hpat]; rfl
                    have h3:(patP n).minExp≤9:=by rw [hpat]; exact hme
                    unfold cntN bigN;simp only [List.any_cons,List.any_nil,Bool.or_false];rw [decide_eq_false (show ¬ 40 < (patP n).minExp by omega),h2]
                    by_cases h:40 < (patP n).maxSig
                    · rw [decide_eq_true h]; simp
                    · rw [decide_eq_false h,decide_eq_false (show ¬ 40 < (patP n).minSig by omega)]
                      simp only [Bool.or_false,Bool.or_assoc,Bool.false_or,Nat.not_lt_zero,decide_false]
                   rw [← hpat,← h9]
                   cases h9':(cntN (patP n)).any (fun k=>decide (40 < k))
                   · rw [if_neg (by decide),qB5 n (by unfold er9; rw [h9']; rfl)]; rfl
                   · rw [if_pos rfl,qBX n (k:=7) (by unfold er9; rw [h9']; rfl)]
                 · rw [h8] at h8e
                   rw [if_pos rfl,qBX n (k:=5) h8e]
             · rw [if_pos rfl,qBX n (k:=5) (by unfold er5; rw [hc,h5]; rfl)]
         · rw [if_pos rfl,qBX n (k:=3) (by unfold er4; rw [h4]; rfl)]
       · rw [h3'] at h3e
         rw [if_pos rfl,qBX n (k:=4) h3e]
     · rw [if_pos rfl,qBX n (k:=4) (by unfold er3; rw [h3]; rfl)]
   · rw [if_pos rfl,qBX n (k:=3) (by unfold er2; rw [qFB,ho,Bool.not_true,Bool.false_or,h2]; rfl)]
theorem prg_num (l:List Nat):prgZ l=numZ l:=by
 show resE (cutP l) (er1 (cutP l) :: _)=_
 have h1:=er1_exp (cutP l)
 unfold numZ
 cases hs:l.any (· == 69)
 · have hsci:(cutP l).sci=false:=hs
   have hexp:(cutP l).exp=[]:=qDX hs;rw [hsci,if_neg (by decide)] at h1;rw [qB5 _ h1,if_neg (by decide)];have hB:=body_num (cutP l) rfl rfl rfl rfl (by rw [hexp]; decide);rw [hexp,hsci] at hB;exact hB.symm
 · have hsci:(cutP l).sci=true:=hs
   have hexp:(cutP l).exp=dnA 69 l:=rfl;rw [hsci,if_pos rfl,hexp] at h1;rw [if_pos rfl]
   by_cases he:(expZ (dnA 69 l)).1=0
   · rw [if_neg (fun h=>h he)]
     rw [he] at h1;rw [qB5 _ h1];have hx:(expZ (dnA 69 l)).2.1=(dnA 69 l).countP z48∧(expZ (dnA 69 l)).2.2=decide ((dnA 69 l).head? = some 43):=by
      unfold expZ at he ⊢
      split at he
      · cases he
      · rename_i h3
        split at he
        · cases he
        · rename_i h4
          rw [if_neg h3,if_neg h4];refine ⟨?_,rfl⟩;simp only [Bool.or_eq_true,Bool.not_eq_true',not_or,Bool.not_eq_false] at h3;have hall:=List.all_eq_true.1 h3.2
          show (expT (dnA 69 l)).length=_
          unfold expT at hall ⊢
          by_cases hh:(dnA 69 l).head? = some 43
          · rw [if_pos hh] at hall ⊢
            cases hd:dnA 69 l with
            | nil=>rfl
            | cons c t=>
             rw [hd] at hh hall;rw [List.head?_cons] at hh
             cases hh
             rw [List.drop_succ_cons,List.drop_zero] at hall ⊢;rw [List.countP_cons_of_neg (by decide),qCE hall]
          · rw [if_neg hh,List.drop_zero] at hall ⊢
            rw [qCE hall]
     have h9:=(qIB he).2;have hB:=body_num (cutP l) rfl rfl rfl rfl (by rw [hexp,← hx.1]; exact h9);rw [hexp,hsci,← hx.1,← hx.2] at hB;exact hB.symm
   · rw [if_pos he]
     obtain ⟨k,hk⟩:∃ k,(expZ (dnA 69 l)).1=k+1:=⟨(expZ (dnA 69 l)).1 - 1,by omega⟩;rw [hk] at h1 ⊢;exact qBX _ h1 _
def Mw (w:World):Prop:=∃ m,w.cell? ⟨1,0,none⟩=some (.int .i64 m)∧1 < w.heap.size
theorem Mw.below {w w':World} (h:Mw w) (hb:Below w.heap.size w w'):Mw w':=by
 obtain ⟨m,hm,hg⟩:=h
 exact ⟨m,(hb.cell (p:=⟨_,0,none⟩) hg).trans hm,Nat.lt_of_lt_of_le hg hb.size⟩
theorem strCut_c (s:ByteArray) (c:UInt8) (w:World) (hM:Mw w) (hs:s.size < 4294967281):Calls Tryz.prog 179 #[.string s,.string ⟨#[c]⟩] w fun e w'=>
 e=.returned (.tuple #[.string (stz (upA c.toNat (bts s))),.string (stz (dnA c.toNat (bts s))),.bool ((bts s).any (· == c.toNat))])∧∃ n,w'=w.drewN n:=by
 obtain ⟨m,hm,_⟩:=hM
 obtain ⟨h1,h2,h3⟩:=cut_one s.data.toList c
 refine (Tryz.strings_Cut s ⟨#[c]⟩ m w hs hm).mono ?_
 rintro e w' ⟨rfl,hw⟩
 refine ⟨?_,hw⟩
 show Ending.returned (.tuple #[.string ⟨(Lib.cut s.data.toList [c]).1.toArray⟩,.string ⟨(Lib.cut s.data.toList [c]).2.1.toArray⟩,.bool (Lib.cut s.data.toList [c]).2.2])=_
 rw [qFR (Lib.cut s.data.toList [c]).1,qFR (Lib.cut s.data.toList [c]).2.1,h1,h2,h3]; rfl
theorem qLR (s:ByteArray) (c:UInt8) (w:World) (hM:Mw w) (hs:s.size < 4294967281):Calls Tryz.prog 180 #[.string s,.string ⟨#[c]⟩,.string ⟨#[]⟩] w fun e w'=>
 e=.returned (.string (stz ((bts s).filter (· != c.toNat))))∧Below w.heap.size w w':=by
 obtain ⟨m,hm,_⟩:=hM
 refine (Tryz.strings_ReplaceAll s ⟨#[c]⟩ ⟨#[]⟩ m w hs hm (Nat.le_refl 1) (by show s.size+_ * 0≤_; omega)).mono ?_
 rintro e w' ⟨rfl,hw⟩
 refine ⟨?_,hw⟩
 rw [qFR]
 show Ending.returned (.string (stz ((Lib.replaceAll s.data.toList [c] []).map UInt8.toNat)))=_
 rw [replA_one]; rfl
theorem qJG (s:ByteArray) (c:UInt8) (w:World):Calls Tryz.prog 190 #[.string s,.string ⟨#[c]⟩] w fun e w'=>
 e=.returned (.int .i64 (((bts s).countP (· == c.toNat):Nat):Int))∧w=w':=by
 refine (Tryz.strings_Count_one s c w).mono ?_
 rintro e w' ⟨rfl,rfl⟩
 rw [mp_count]
 exact ⟨rfl,rfl⟩
theorem qFS (s:ByteArray) (c:UInt8) (w:World):Calls Tryz.prog 171 #[.string s,.string ⟨#[c]⟩] w fun e w'=>
 e=.returned (.bool (decide ((bts s).head? = some c.toNat)))∧w=w':=by
 refine (Tryz.strings_HasPrefix s ⟨#[c]⟩ w).mono ?_
 rintro e w' ⟨rfl,rfl⟩
 show Ending.returned (.bool (Lib.hasPrefix s.data.toList [c]))=_∧_
 rw [qGZ]
 exact ⟨rfl,rfl⟩
theorem strSuffix_c (s:ByteArray) (c:UInt8) (w:World) (hs:s.size < 4294967281):Calls Tryz.prog 240 #[.string s,.string ⟨#[c]⟩] w fun e w'=>
 e=.returned (.bool (decide ((bts s).getLast? = some c.toNat)))∧w=w':=by
 refine (Tryz.strings_HasSuffix s ⟨#[c]⟩ w (by omega)).mono ?_
 rintro e w' ⟨rfl,rfl⟩
 show Ending.returned (.bool (Lib.hasSuffix s.data.toList [c]))=_∧_
 rw [suffix_one]
 exact ⟨rfl,rfl⟩
theorem qLS (s:ByteArray) (c:UInt8) (w:World):Calls Tryz.prog 235 #[.string s,.string ⟨#[c]⟩] w fun e w'=>
 e=.returned (.string (stz ((bts s).drop (if (bts s).head? = some c.toNat then 1 else 0))))∧w=w':=by
 refine (Tryz.strings_TrimPrefix s ⟨#[c]⟩ w).mono ?_
 rintro e w' ⟨rfl,rfl⟩
 rw [qFR]
 show Ending.returned (.string (stz ((Lib.trimPrefix s.data.toList [c]).map UInt8.toNat)))=_∧_
 rw [trimP_one]
 exact ⟨rfl,rfl⟩
theorem qID (s:ByteArray) (c:UInt8) (hc:c.toNat < 128) (w:World):Calls Tryz.prog 193 #[.string s,.string ⟨#[c]⟩] w fun e w'=>
 e=.returned (.string (stz ((bts s).dropWhile (· == c.toNat))))∧w=w':=by
 refine (Tryz.strings_TrimLeft_one s c hc w).mono ?_
 rintro e w' ⟨rfl,rfl⟩
 rw [qFR,trimL_one]
 exact ⟨rfl,rfl⟩
theorem qLT (s:ByteArray) (c:UInt8) (hc:c.toNat < 128) (w:World) (hs:s.size < 4294967281):Calls Tryz.prog 139 #[.string s,.string ⟨#[c]⟩] w fun e w'=>
 e=.returned (.string (stz ((bts s).reverse.dropWhile (· == c.toNat)).reverse))∧w=w':=by
 refine (Tryz.strings_TrimRight_one s c hc w (by omega)).mono ?_
 rintro e w' ⟨rfl,rfl⟩
 rw [qFR,trimR_one]
 exact ⟨rfl,rfl⟩
theorem qIE (L:List UInt8) (c:UInt8):decide (0≤Lib.indexByte L c)=L.any (· == c):=by
 induction L with
 | nil=>rfl
 | cons b l ih=>
  rw [List.any_cons,← ih,Lib.indexByte];have hge:=Lib.indexByte_ge l c
  cases h:(b == c)
  · simp only [Bool.false_eq_true,if_false]
    rw [Bool.false_or]
    split
    · rename_i h2
      rw [beq_iff_eq] at h2;rw [h2]
    · rename_i h2
      have h2:¬ Lib.indexByte l c=-1:=by simpa using h2
      rw [decide_eq_true (by omega),decide_eq_true (by omega)]
  · rw [if_pos rfl,Bool.true_or]; rfl
theorem contains1_c (s:ByteArray) (c:UInt8) (w:World):Calls Tryz.prog 238 #[.string s,.string ⟨#[c]⟩] w fun e w'=>
 e=.returned (.bool ((bts s).any (· == c.toNat)))∧w=w':=by
 refine (Tryz.strings_Contains_one s c w).mono ?_
 rintro e w' ⟨rfl,rfl⟩
 rw [qIE,← mp_any]
 exact ⟨rfl,rfl⟩
theorem contains2_c (s:ByteArray) (w:World) (hM:Mw w) (hs:s.size < 4294967281):Calls Tryz.prog 238 #[.string s,.string ⟨#[44,44]⟩] w fun e w'=>
 e=.returned (.bool (dblC (bts s)))∧w=w':=by
 obtain ⟨m,hm,_⟩:=hM
 refine (Tryz.strings_Contains s ⟨#[44,44]⟩ m w hs hm).mono ?_
 rintro e w' ⟨rfl,rfl⟩
 show Ending.returned (.bool (Lib.contains s.data.toList [44,44]))=_∧_
 rw [qH8]
 exact ⟨rfl,rfl⟩
theorem qIF (s:ByteArray) (w:World) (hs:s.size < 4294967281):Calls Tryz.prog 244 #[.string s,.string ⟨#[44]⟩] w fun e w'=>
 e=.returned (.int .i64 (Lib.lastIndexByte s ((44:Nat):Int)))∧w=w':=by
 refine (Tryz.strings_LastIndex_one s ⟨#[44]⟩ rfl (by omega) w).mono ?_
 rintro e w' ⟨rfl,rfl⟩
 exact ⟨rfl,rfl⟩
theorem repeat_c (c:UInt8) (n:Nat) (w:World) (hn:n≤140737488355328):Calls Tryz.prog 161 #[.string ⟨#[c]⟩,.int .i64 (n:Int)] w fun e w'=>
 e=.returned (.string (stz (List.replicate n c.toNat)))∧Below w.heap.size w w':=by
 refine (Tryz.strings_Repeat ⟨#[c]⟩ n w (by omega) (by show 1 * n≤_; omega)).mono ?_
 rintro e w' ⟨rfl,hw⟩
 rw [qFR]
 show Ending.returned (.string (stz ((Lib.repeatL [c] n).map UInt8.toNat)))=_∧_
 rw [qJE]
 exact ⟨rfl,hw⟩
theorem strClone_c (s:ByteArray) (w:World) (hs:s.size < 4294967281):Calls Tryz.prog 225 #[.string s] w fun e w'=>
 e=.returned (.string s)∧Below w.heap.size w w':=Tryz.stringslite_Clone s w (by omega)
theorem ascii_at {s:ByteArray} (h:∀ b ∈ bts s,b < 128) {k:Nat} (hk:k < s.size):s[k].toNat < 128:=by
 obtain ⟨hl,e⟩:=qJB hk
 rw [← e]
 exact h _ (List.getElem_mem hl)
set_option maxHeartbeats 1000000 in
theorem qLU (s:ByteArray) (r:Nat) (w:World) (ha:∀ b ∈ bts s,b < 128) (hr:128≤r) (hr2:r≤1114111) (_hs:s.size≤1000):Calls Tryz.prog 231 #[.string s,.int .i32 (r:Int)] w fun e w'=>
 e=.returned (.int .i64 (-1))∧Below w.heap.size w w':=by
 have HA:=hid ha
 clear ha
 have g0:decide ((0:Int)≤(r:Int))=true:=decide_eq_true (by omega)
 have g1:decide ((r:Int) < 128)=false:=decide_eq_false (by omega)
 go_enter Tryz.func231,Tryz.ntmps231
 by_cases h:r=65533
 · subst h
   go_wp2
   go_loopg [] s.size (fun gf wx=>∃ pos:Nat,wx.heap[w.heap.size]? = some (.stringIter s pos)∧Below w.heap.size w wx∧s.size≤pos+gf)
   case atStart=>exact ⟨0,World.iter_heap w s 0,(Below.refl _ w).alloc (Nat.le_refl _) _,by omega⟩
   case round=>
    obtain ⟨pos,hit,hbw,hfu⟩:=hrel
    by_cases hps:pos < s.size
    · obtain ⟨g',rfl⟩:∃ g',gk=g'+1:=⟨gk - 1,by omega⟩
      have hlt:=ascii_at HA.out hps;have hnx:∀ ty,(Instr.next (.pointer (some ⟨w.heap.size,0,none⟩)) true ty).run Tryz.prog wr=_:=fun ty=>Lib.run_next_ascii_at wr w.heap.size s pos ty hit hps hlt
      have hne:(((s[pos].toNat:Nat):Int) == 65533)=false:=by simp only [beq_eq_false_iff_ne,ne_eq]; omega
      have hit2:=Lib.iterAt_heap wr w.heap.size s pos (pos+1) hit;have hbw2:=Lib.below_iterAt hbw (k:=w.heap.size) (Nat.le_refl _) s (pos+1);clear hlt
      go_wp2
      go_roundg g'
      case measure=>omega
      case rel=>exact ⟨pos+1,hit2,hbw2,by omega⟩
    · have hnx:∀ ty,(Instr.next (.pointer (some ⟨w.heap.size,0,none⟩)) true ty).run Tryz.prog wr=_:=fun ty=>Lib.run_next_end_at wr w.heap.size s pos ty hit hps
      go_wp2
      go_ret
      exact ⟨rfl,hbw⟩
 · have g2:((r:Int) == 65533)=false:=by simp only [beq_eq_false_iff_ne,ne_eq]; omega
   have HV:=hid (fun W=>Tryz.utf8_ValidRune (r:Int) W)
   cases hv:Lib.validRune (r:Int)
   · rw [hv] at HV
     clear hv h
     go_wp2_with (go_at_call 270; refine (HV.out _).mono ?_; rintro e w' ⟨rfl,rfl⟩)
     go_ret
     exact ⟨rfl,Below.refl _ _⟩
   · rw [hv] at HV
     have hV:Utf8.valid (r:Int)=true:=by
      rw [← hv,Bool.eq_iff_iff];simp [Utf8.valid,Lib.validRune];omega
     have hef:=encode_facts (r:Int) hV (by omega);have hcv:∀ W,(convert 21 9 (.int .i32 (r:Int))).run Tryz.prog W=.ok (.string (Utf8.encode (r:Int))) W:=fun W=>
      run_convert_int_string W 21 9 .i32 (r:Int) (by rw [Tryz.underlying21]; rfl) Tryz.underlying9
     clear h hV hv;generalize hE:Utf8.encode (r:Int)=E at *;obtain ⟨e1,e2,e3⟩:=hef;obtain ⟨k,hk⟩:∃ k,E.size=k+1:=⟨E.size - 1,by omega⟩;have hkE:k < E.size:=by omega
     have hlast:128≤E[k].toNat:=by
      have:=e3 (by omega);simp only [hk,Nat.add_sub_cancel] at this;exact this
     have hsub:(E.size:Int) - 1=(k:Int):=by omega
     clear e3
     by_cases hks:k < s.size
     · have hlo:=ascii_at HA.out hks
       have hne:(((s[k].toNat:Nat):Int) != ((E[k].toNat:Nat):Int))=true:=by simp only [bne_iff_ne,ne_eq]; omega
       have HI:Hid (∀ W,Calls Tryz.prog 269 #[.string (s.extract (k+1) s.size),.int .u8 ((E[k].toNat:Nat):Int)] W fun e w'=>e=.returned (.int .i64 (-1))∧W=w'):=hid fun W=>by
        refine (Tryz.strings_IndexByte (s.extract (k+1) s.size) ((E[k].toNat:Nat):Int) W).mono ?_;rintro e w' ⟨rfl,rfl⟩;refine ⟨?_,rfl⟩;have hn:(s.extract (k+1) s.size).data.toList.any (· == (((E[k].toNat:Nat):Int)).toNat.toUInt8)=false:=by
         rw [← mp_any];refine qBK fun b hb=>?_
         have hb':b ∈ bts (s.extract (k+1) s.size):=hb;rw [qB7] at hb';have:=HA.out b (List.mem_of_mem_drop hb');rw [Int.toNat_natCast,Nat.toUInt8,UInt8.ofNat_toNat];simp only [beq_eq_false_iff_ne,ne_eq];omega
        have:=qIE (s.extract (k+1) s.size).data.toList (((E[k].toNat:Nat):Int)).toNat.toUInt8;rw [hn,decide_eq_false_iff_not] at this;have hge:=Lib.indexByte_ge (s.extract (k+1) s.size).data.toList (((E[k].toNat:Nat):Int)).toNat.toUInt8;rw [show Lib.indexByte (s.extract (k+1) s.size).data.toList (((E[k].toNat:Nat):Int)).toNat.toUInt8=-1 by omega]
       clear hlo hlast hk
       go_wp2_with (first
        | (go_at_call 270; refine (HV.out _).mono ?_; rintro e w' ⟨rfl,rfl⟩)
        | fail)
       go_step3
       go_wp2
       go_loopw [9] (fun iv wr=>iv=.int .i64 (k:Int)∧wr=w') (fun _ _=>0)
       case atStart=>exact ⟨rfl,rfl⟩
       case round=>
        obtain ⟨rfl,rfl⟩:=hrel
        go_wp2
        go_step3
        go_wp2
        go_quiet (fail)
        go_wp2
        go_quiet ((go_at_call 269; exact qAZ (HI.out _)))
        go_wp2
        rw [Exit.noGoto_ret]
        go_wp2
        rw [Exit.noGoto_ret]
        go_ret
        exact ⟨rfl,(Below.refl _ _).of_drewN _⟩
     · have hlt:decide ((k:Int) < (s.size:Int))=false:=decide_eq_false (by omega)
       go_wp2_with (first
        | (go_at_call 270; refine (HV.out _).mono ?_; rintro e w' ⟨rfl,rfl⟩)
        | fail)
       go_step3
       go_wp2
       go_loopw [9] (fun iv wr=>iv=.int .i64 (k:Int)∧wr=w') (fun _ _=>0)
       case atStart=>exact ⟨rfl,rfl⟩
       case round=>
        obtain ⟨rfl,rfl⟩:=hrel
        go_wp2
        rw [Exit.noGoto_ret]
        go_ret
        exact ⟨rfl,Below.refl _ _⟩
def inS8 (s:ByteArray) (r:Nat):Bool:=(bts s).any (· == r)
theorem inS8_lo {s:ByteArray} (ha:∀ b ∈ bts s,b < 128):LoA (inS8 s):=by
 intro c hc
 obtain ⟨b,hb,e⟩:=List.any_eq_true.1 hc
 rw [beq_iff_eq] at e
 subst e
 exact ha b hb
set_option maxHeartbeats 1000000 in
theorem qFC (s:ByteArray) (r:Nat) (w:World) (ha:∀ b ∈ bts s,b < 128) (hr2:r≤1114111) (hs:s.size≤1000):Calls Tryz.prog 173 #[.string s,.int .i32 (r:Int)] w fun e w'=>
 e=.returned (.bool (inS8 s r))∧Below w.heap.size w w':=by
 by_cases hr:r < 128
 · refine (Tryz.strings_ContainsRune_ascii s (r:Int) w (by omega) (by omega)).mono ?_
   rintro e w' ⟨rfl,rfl⟩;refine ⟨?_,Below.refl _ _⟩;rw [qIE,← mp_any];have:(((r:Nat):Int).toNat.toUInt8).toNat=r:=by
    rw [Int.toNat_natCast]
    show (UInt8.ofNat r).toNat=r
    simp;omega
   rw [this]; rfl
 · have hf:inS8 s r=false:=(inS8_lo ha).hi (by omega)
   have HI:=hid (fun W=>qLU s r W ha (by omega) hr2 hs);rw [hf];clear ha hr hf
   go_enter Tryz.func173,Tryz.ntmps173
   go_wp2_with (first
    | (go_at_call 231; refine (HI.out _).mono ?_; rintro e w' ⟨rfl,hb⟩)
    | fail)
   go_ret
   exact ⟨rfl,hb⟩
def qD9 (s:ByteArray) (v:Value) (w:World):Prop:=∃ B,v=.func (.func 277) #[] #[.pointer (some ⟨B,0,none⟩)]∧B < w.heap.size∧w.cell? ⟨B,0,none⟩=some (.string s)
theorem qD9.below {s:ByteArray} {v:Value} {w w':World} (h:qD9 s v w) (hb:Below w.heap.size w w'):qD9 s v w':=by
 obtain ⟨B,e,h1,h2⟩:=h
 exact ⟨B,e,Nat.lt_of_lt_of_le h1 hb.size,(hb.cell (p:=⟨B,0,none⟩) h1).trans h2⟩
set_option maxHeartbeats 1000000 in
theorem of_c (s:ByteArray) (w:World):Calls Tryz.prog 237 #[.string s] w fun e w'=>∃ B,e=.returned (.func (.func 277) #[] #[.pointer (some ⟨B,0,none⟩)])∧qD9 s (.func (.func 277) #[] #[.pointer (some ⟨B,0,none⟩)]) w'∧Below w.heap.size w w':=by
 go_enter Tryz.func237,Tryz.ntmps237
 go_wp2
 go_ret
 refine ⟨_,rfl,⟨w.heap.size,rfl,by simp,by simp⟩,(Below.refl _ w).alloc (Nat.le_refl _) _⟩
set_option maxHeartbeats 1000000 in
theorem qJH {s:ByteArray} {B:Nat} {w:World} (ha:∀ b ∈ bts s,b < 128) (hs:s.size≤1000) (h1:B < w.heap.size) (h2:w.cell? ⟨B,0,none⟩=some (.string s)) :
 PredGrows Tryz.prog 277 #[.pointer (some ⟨B,0,none⟩)] (inS8 s) w:=by
 intro W x hx hb
 have hc:W.cell? ⟨B,0,none⟩=some (.string s):=(hb.cell (p:=⟨B,0,none⟩) h1).trans h2
 have HC:=hid (fun W=>qFC s x W ha hx hs)
 show Calls _ _ #[.int .i32 (x:Int),.pointer (some ⟨B,0,none⟩)] W _
 clear hb h2 ha
 go_enter Tryz.func277,Tryz.ntmps277
 go_wp2_with (first
  | (go_at_call 173; refine (HC.out _).mono ?_; rintro e w' ⟨rfl,hb⟩)
  | fail)
 go_ret
 exact ⟨rfl,hb⟩
theorem qJI:∀ args w,(callFunc 277 args).run Tryz.prog w=.ok (.enter 277 args) w:=enters_of Tryz.func277 (by kernel_rfl) rfl
theorem qIZ (s t:ByteArray) (v:Value) (w:World) (ha:∀ b ∈ bts s,b < 128) (hs:s.size≤1000) (hv:qD9 s v w):Calls Tryz.prog 278 #[.string t,v] w fun e w'=>
 e=.returned (.bool ((bts t).any (inS8 s)))∧Below w.heap.size w w':=by
 obtain ⟨B,rfl,h1,h2⟩:=hv
 have:=Tryz.strings_ContainsFunc_grows 277 #[.pointer (some ⟨B,0,none⟩)] qJI (inS8 s) t w (qJH ha hs h1 h2)
 rwa [idxF_any (inS8_lo ha)] at this
theorem trimFunc_c (s t:ByteArray) (v:Value) (w:World) (ha:∀ b ∈ bts s,b < 128) (hs:s.size≤1000) (hv:qD9 s v w):Calls Tryz.prog 276 #[.string t,v] w fun e w'=>
 e=.returned (.string (stz ((bts t).dropWhile (inS8 s))))∧Below w.heap.size w w':=by
 obtain ⟨B,rfl,h1,h2⟩:=hv
 have:=Tryz.strings_TrimLeftFunc_grows 277 #[.pointer (some ⟨B,0,none⟩)] qJI (inS8 s) t w (qJH ha hs h1 h2)
 rwa [trimF_lo (inS8_lo ha)] at this
set_option maxHeartbeats 1000000 in
theorem qH0 (s t:ByteArray) (v:Value) (w:World) (ha:∀ b ∈ bts s,b < 128) (hs:s.size≤1000) (hv:qD9 s v w):Calls Tryz.prog 239 #[.string t,v] w fun e w'=>
 e=.returned (.bool ((bts t).any (inS8 s)))∧Below w.heap.size w w':=by
 have HC:=hid (qIZ s t v w ha hs hv)
 clear ha hv
 go_enter Tryz.func239,Tryz.ntmps239
 go_wp2_with (first
  | (go_at_call 278; refine HC.out.mono ?_; rintro e w' ⟨rfl,hb⟩)
  | fail)
 go_ret
 exact ⟨rfl,hb⟩
def dws (ss:List ByteArray) (l:List Nat):List Nat:=ss.foldl (fun l s=>l.dropWhile (inS8 s)) l
theorem dws_take {ss:List ByteArray} {k:Nat} (h:k < ss.length) (l:List Nat):dws (ss.take (k+1)) l=(dws (ss.take k) l).dropWhile (inS8 ss[k]):=by
 unfold dws
 rw [List.take_succ_eq_append_getElem h,List.foldl_append]; rfl
structure qGD (w:World) (g:Nat) (ss:List ByteArray):Prop where
 lt:g < w.heap.size
 lo:∀ k (h:k < ss.length),(∀ b ∈ bts ss[k],b < 128)∧ss[k].size≤1000
 at_:∀ k (h:k < ss.length),∃ v,w.cell? ⟨g,k,none⟩=some v∧qD9 ss[k] v w
theorem qGD.below {w w':World} {g:Nat} {ss:List ByteArray} (h:qGD w g ss) (hb:Below w.heap.size w w'):qGD w' g ss:=
 ⟨Nat.lt_of_lt_of_le h.lt hb.size,h.lo,fun k hk=>by
  obtain ⟨v,h1,h2⟩:=h.at_ k hk;exact ⟨v,(hb.cell (p:=⟨g,k,none⟩) h.lt).trans h1,h2.below hb⟩⟩
set_option maxHeartbeats 1000000 in
theorem qHM (ss:List ByteArray) (t:ByteArray) (g c:Nat) (w:World) (hl:ss.length≤1000) (h:qGD w g ss):Calls Tryz.prog 236 #[.string t,.slice (some ⟨g,0,none⟩) ss.length c] w fun e w'=>
 e=.returned (.bool (dws ss (bts t)).isEmpty)∧Below w.heap.size w w':=by
 have HS:=hid h
 clear h
 obtain ⟨n,hn⟩:∃ n,ss.length=n:=⟨_,rfl⟩
 rw [hn] at hl ⊢
 have HN:=hid hn
 clear hn
 go_enter Tryz.func236,Tryz.ntmps236
 go_wp2
 go_loopw [0,9] (fun sv iv wr=>∃ (k:Nat) (u:ByteArray),k≤n∧iv=.int .i64 (k:Int)∧sv=.string u∧bts u=dws (ss.take k) (bts t)∧Below w.heap.size w wr) (fun _ iv _=>n - (intOf iv).toNat)
 case atStart=>exact ⟨0,t,Nat.zero_le _,rfl,rfl,by rw [List.take_zero]; rfl,Below.refl _ _⟩
 case round=>
  obtain ⟨k,u,hk,rfl,rfl,hu0,hb0⟩:=hrel;have HU:=hid hu0;have HB:=hid hb0;have HSW:=hid (HS.out.below hb0);clear hu0 hb0
  by_cases hlt:k < n
  · have hks:k < ss.length:=by rw [HN.out]; exact hlt
    obtain ⟨v,hc,hv0⟩:=HSW.out.at_ k hks;have HC:=hid (trimFunc_c ss[k] u v wr (HSW.out.lo k hks).1 (HSW.out.lo k hks).2 hv0);have HDT:=hid (dws_take hks (bts t));clear hv0
    go_wp2_with (first
     | (go_at_call 276; refine HC.out.mono ?_; rintro e w' ⟨rfl,hb⟩)
     | fail)
    go_roundw
    case rel=>
     refine ⟨k+1,_,by omega,by go_num,rfl,?_,HB.out.trans (hb.mono HB.out.size)⟩;rw [qAE fun b hb=>qAO u b ((List.dropWhile_sublist _).subset hb),HU.out,HDT.out]
    case measure=>simp [intOf]; omega
  · have hke:k=n:=by omega
    subst hke
    go_wp2
    go_ret
    have e:ss.take k=ss:=List.take_of_length_le (by rw [HN.out]; exact Nat.le_refl _);refine ⟨?_,HB.out⟩
    show Ending.returned (.bool u.toList.isEmpty)=_
    rw [qB0,← qA1,HU.out,e]
    cases dws ss (bts t) <;> rfl
def ptV (m:ByteArray) (sc:Bool) (ex wh fr:ByteArray) (pt:Bool) (ba:ByteArray):Array Value:=#[.string m,.bool sc,.string ex,.string wh,.string fr,.bool pt,.string ba]
structure PX (w0 W:World) (g:Nat) (m:ByteArray) (sc:Bool) (ex wh fr:ByteArray) (pt:Bool) (ba:ByteArray):Prop where
 b:Below w0.heap.size w0 W
 m0:Mw w0
 bx:BX W g (ptV m sc ex wh fr pt ba) 156
section
variable {w0 W:World} {g:Nat} {m:ByteArray} {sc:Bool} {ex wh fr:ByteArray} {pt:Bool} {ba:ByteArray}
theorem PX.mw (h:PX w0 W g m sc ex wh fr pt ba):Mw W:=h.m0.below h.b
theorem PX.below {W':World} (h:PX w0 W g m sc ex wh fr pt ba) (hb:Below W.heap.size W W'):PX w0 W' g m sc ex wh fr pt ba:=
 ⟨h.b.trans (hb.mono h.b.size),h.m0,h.bx.below hb h.bx.lt⟩
theorem PX.new (h:Mw w0):PX w0 (w0.alloc (.cells (ptV m sc ex wh fr pt ba) 156)) w0.heap.size m sc ex wh fr pt ba:=
 ⟨(Below.refl _ _).alloc (Nat.le_refl _) _,h,BX.new _ _ _⟩
theorem PX.cells (h:PX w0 W g m sc ex wh fr pt ba):W.cell? ⟨g,0,none⟩=some (.string m)∧W.cell? ⟨g,1,none⟩=some (.bool sc)∧W.cell? ⟨g,2,none⟩=some (.string ex)∧W.cell? ⟨g,3,none⟩=some (.string wh) ∧
 W.cell? ⟨g,4,none⟩=some (.string fr)∧W.cell? ⟨g,5,none⟩=some (.bool pt)∧W.cell? ⟨g,6,none⟩=some (.string ba):=⟨h.bx.c 0,h.bx.c 1,h.bx.c 2,h.bx.c 3,h.bx.c 4,h.bx.c 5,h.bx.c 6⟩
theorem PX.drew (h:PX w0 W g m sc ex wh fr pt ba):PX w0 W.drew g m sc ex wh fr pt ba:=⟨h.b.drew,h.m0,h.bx⟩
theorem PX.S (h:PX w0 W g m sc ex wh fr pt ba):Hid (PX w0 W g m sc ex wh fr pt ba)∧W.cell? ⟨g,0,none⟩=some (.string m)∧W.cell? ⟨g,1,none⟩=some (.bool sc)∧W.cell? ⟨g,2,none⟩=some (.string ex)∧W.cell? ⟨g,3,none⟩=some (.string wh) ∧
 W.cell? ⟨g,4,none⟩=some (.string fr)∧W.cell? ⟨g,5,none⟩=some (.bool pt)∧W.cell? ⟨g,6,none⟩=some (.string ba):=⟨hid h,h.cells⟩
end
theorem qA2 (w:World) (o:Obj):Below w.heap.size w (w.alloc o):=(Below.refl _ _).alloc (Nat.le_refl _) _
theorem qGD.one {w:World} {s:ByteArray} {v:Value} {T:TypeId} (h:qD9 s v w) (ha:∀ b ∈ bts s,b < 128) (hs:s.size≤1000):qGD (w.alloc (.cells #[v] T)) w.heap.size [s]:=
 ⟨by simp,fun k hk=>by
  have:k=0:=by simpa using hk
  subst this; exact ⟨ha,hs⟩,fun k hk=>by
  have:k=0:=by simpa using hk
  subst this;exact ⟨v,by rw [cell_of_row _ w.heap.size _ _ _ _ (heap_alloc_new w _)]; rfl,h.below (qA2 w _)⟩⟩
theorem qGD.two {w:World} {s t:ByteArray} {v u:Value} {T:TypeId} (h:qD9 s v w) (h':qD9 t u w) (ha:∀ b ∈ bts s,b < 128) (ha':∀ b ∈ bts t,b < 128) (hs:s.size≤1000) (hs':t.size≤1000):qGD (w.alloc (.cells #[v,u] T)) w.heap.size [s,t]:=
 ⟨by simp,fun k hk=>by
  have:k=0∨k=1:=by simp at hk; omega
  rcases this with rfl | rfl
  · exact ⟨ha,hs⟩
  · exact ⟨ha',hs'⟩,fun k hk=>by
  have:k=0∨k=1:=by simp at hk; omega
  rcases this with rfl | rfl
  · exact ⟨v,by rw [cell_of_row _ w.heap.size _ _ _ _ (heap_alloc_new w _)]; rfl,h.below (qA2 w _)⟩
  · exact ⟨u,by rw [cell_of_row _ w.heap.size _ _ _ _ (heap_alloc_new w _)]; rfl,h'.below (qA2 w _)⟩⟩
theorem qGD.three {w:World} {s t r:ByteArray} {v u x:Value} {T:TypeId} (h:qD9 s v w) (h':qD9 t u w) (h'':qD9 r x w) (ha:∀ b ∈ bts s,b < 128) (ha':∀ b ∈ bts t,b < 128) (ha'':∀ b ∈ bts r,b < 128)
 (hs:s.size≤1000) (hs':t.size≤1000) (hs'':r.size≤1000):qGD (w.alloc (.cells #[v,u,x] T)) w.heap.size [s,t,r]:=
 ⟨by simp,fun k hk=>by
  have:k=0∨k=1∨k=2:=by simp at hk; omega
  rcases this with rfl | rfl | rfl
  · exact ⟨ha,hs⟩
  · exact ⟨ha',hs'⟩
  · exact ⟨ha'',hs''⟩,fun k hk=>by
  have:k=0∨k=1∨k=2:=by simp at hk; omega
  rcases this with rfl | rfl | rfl
  · exact ⟨v,by rw [cell_of_row _ w.heap.size _ _ _ _ (heap_alloc_new w _)]; rfl,h.below (qA2 w _)⟩
  · exact ⟨u,by rw [cell_of_row _ w.heap.size _ _ _ _ (heap_alloc_new w _)]; rfl,h'.below (qA2 w _)⟩
  · exact ⟨x,by rw [cell_of_row _ w.heap.size _ _ _ _ (heap_alloc_new w _)]; rfl,h''.below (qA2 w _)⟩⟩
theorem in_one (c:UInt8) (x:Nat):inS8 ⟨#[c]⟩ x=(x == c.toNat):=by
 show ([c].map UInt8.toNat).any (· == x)=_
 simp only [List.map_cons,List.map_nil,List.any_cons,List.any_nil,Bool.or_false]
 exact Bool.beq_comm ..
theorem qF4 (c:UInt8):inS8 ⟨#[c]⟩=fun x=>x == c.toNat:=funext (in_one c)
theorem in_z48:inS8 ⟨#[48]⟩=z48:=qF4 48
theorem in_h35:inS8 ⟨#[35]⟩=h35:=qF4 35
theorem in_a64:inS8 ⟨#[64]⟩=a64:=qF4 64
theorem in_44:inS8 ⟨#[44]⟩=fun x=>x == 44:=qF4 44
theorem in_dg:inS8 ⟨#[48,49,50,51,52,53,54,55,56,57]⟩=dg:=by
 funext x
 show [48,49,50,51,52,53,54,55,56,57].any (· == x)=dg x
 rw [Bool.eq_iff_iff]
 simp only [List.any_cons,List.any_nil,Bool.or_false,Bool.or_eq_true,beq_iff_eq,dg,Bool.and_eq_true,decide_eq_true_iff]
 omega
theorem in_ab:inS8 ⟨#[49,50,51,52,53,54,55,56,57]⟩=ab:=by
 funext x
 show [49,50,51,52,53,54,55,56,57].any (· == x)=ab x
 rw [Bool.eq_iff_iff]
 simp only [List.any_cons,List.any_nil,Bool.or_false,Bool.or_eq_true,beq_iff_eq,ab,Bool.and_eq_true,decide_eq_true_iff]
 omega
theorem in_okB:inS8 ⟨#[35,48,49,50,51,52,53,54,55,56,57,64,44,46]⟩=okB:=by
 funext x
 show [35,48,49,50,51,52,53,54,55,56,57,64,44,46].any (· == x)=okB x
 rw [Bool.eq_iff_iff]
 simp only [List.any_cons,List.any_nil,Bool.or_false,Bool.or_eq_true,beq_iff_eq,okB,h35,a64,dg,Bool.and_eq_true,decide_eq_true_iff]
 omega
theorem qBY {s:ByteArray} (h:(bts s).all (fun b=>decide (b < 128))=true):∀ b ∈ bts s,b < 128:=fun b hb=>by simpa using List.all_eq_true.1 h b hb
theorem trimPlus_c (s:ByteArray) (w:World):Calls Tryz.prog 235 #[.string s,.string ⟨#[43]⟩] w fun e w'=>e=.returned (.string (stz (expT (bts s))))∧w=w':=qLS s 43 w
theorem bts_expT (s:ByteArray):bts (stz (expT (bts s)))=expT (bts s):=qAE fun b hb=>qAO s b (List.mem_of_mem_drop hb)
theorem qB8 (s:ByteArray):s.toList.isEmpty=(bts s).isEmpty:=by
 rw [qB0,← qA1]
 cases bts s <;> rfl
theorem inRows1_c (s t:ByteArray) (v:Value) (T:TypeId) (w:World) (hv:qD9 s v w) (ha:(bts s).all (fun b=>decide (b < 128))=true) (hs:s.size≤1000) :
 Calls Tryz.prog 236 #[.string t,.slice (some ⟨w.heap.size,0,none⟩) 1 1] (w.alloc (.cells #[v] T)) fun e w'=>e=.returned (.bool ((bts t).dropWhile (inS8 s)).isEmpty)∧Below w.heap.size w w':=by
 refine (qHM [s] t w.heap.size 1 _ (by simp) (qGD.one hv (qBY ha) hs)).mono ?_
 rintro e w' ⟨rfl,hb⟩
 exact ⟨rfl,(qA2 w _).trans (hb.mono (by simp))⟩
theorem inRows1a_c (s t:ByteArray) (v:Value) (T:TypeId) (w:World) (hv:qD9 s v w) (ha:(bts s).all (fun b=>decide (b < 128))=true) (hs:s.size≤1000) :
 Calls Tryz.prog 236 #[.string t,.slice (some ⟨w.heap.size,0,none⟩) 1 1] (w.alloc (.cells #[v] T)) fun e w'=>e=.returned (.bool ((bts t).dropWhile (inS8 s)).isEmpty)∧Below (w.alloc (.cells #[v] T)).heap.size (w.alloc (.cells #[v] T)) w':=
 qHM [s] t w.heap.size 1 _ (by simp) (qGD.one hv (qBY ha) hs)
theorem qJJ (s s' t:ByteArray) (v v':Value) (T:TypeId) (w:World) (hv:qD9 s v w) (hv':qD9 s' v' w) (ha:(bts s).all (fun b=>decide (b < 128))=true) (ha':(bts s').all (fun b=>decide (b < 128))=true) (hs:s.size≤1000) (hs':s'.size≤1000) :
 Calls Tryz.prog 236 #[.string t,.slice (some ⟨w.heap.size,0,none⟩) 2 2] (w.alloc (.cells #[v,v'] T)) fun e w'=>e=.returned (.bool (((bts t).dropWhile (inS8 s)).dropWhile (inS8 s')).isEmpty)∧Below (w.alloc (.cells #[v,v'] T)).heap.size (w.alloc (.cells #[v,v'] T)) w':=
 qHM [s,s'] t w.heap.size 2 _ (by simp) (qGD.two hv hv' (qBY ha) (qBY ha') hs hs')
theorem inRows3a_c (s s' s'' t:ByteArray) (v v' v'':Value) (T:TypeId) (w:World) (hv:qD9 s v w) (hv':qD9 s' v' w) (hv'':qD9 s'' v'' w) (ha:(bts s).all (fun b=>decide (b < 128))=true) (ha':(bts s').all (fun b=>decide (b < 128))=true)
 (ha'':(bts s'').all (fun b=>decide (b < 128))=true) (hs:s.size≤1000) (hs':s'.size≤1000) (hs'':s''.size≤1000) :
 Calls Tryz.prog 236 #[.string t,.slice (some ⟨w.heap.size,0,none⟩) 3 3] (w.alloc (.cells #[v,v',v''] T)) fun e w'=>e=.returned (.bool ((((bts t).dropWhile (inS8 s)).dropWhile (inS8 s')).dropWhile (inS8 s'')).isEmpty)∧Below (w.alloc (.cells #[v,v',v''] T)).heap.size (w.alloc (.cells #[v,v',v''] T)) w':=
 qHM [s,s',s''] t w.heap.size 3 _ (by simp) (qGD.three hv hv' hv'' (qBY ha) (qBY ha') (qBY ha'') hs hs' hs'')
set_option maxHeartbeats 1000000 in
theorem er1_c (m:ByteArray) (sc:Bool) (ex wh fr:ByteArray) (pt:Bool) (ba:ByteArray) (w:World) (hM:Mw w) (_hs:ex.size < 4294967281) :
 Calls Tryz.prog 181 #[.agg (ptV m sc ex wh fr pt ba)] w fun e w'=>e=.returned (.int .i64 ((er1 ⟨bts m,sc,bts ex,bts wh,bts fr,pt,bts ba⟩:Nat):Int))∧Below w.heap.size w w':=by
 have HX:=hid (PX.new (m:=m) (sc:=sc) (ex:=ex) (wh:=wh) (fr:=fr) (pt:=pt) (ba:=ba) hM)
 obtain ⟨c0,c1,c2,c3,c4,c5,c6⟩:=HX.out.cells
 clear hM
 generalize hW:w.alloc (.cells (ptV m sc ex wh fr pt ba) 156)=W at *
 have HW:=hid hW
 clear hW
 generalize hg:w.heap.size=g at *
 have Hg:=hid hg
 clear hg
 have hsz:(stz (expT (bts ex))).size≤ex.size:=by
  have:=qKI (bts ex);rw [qA1] at this;rw [qA9]; omega
 have HER:=hid (show er1 ⟨bts m,sc,bts ex,bts wh,bts fr,pt,bts ba⟩=if sc then (if (stz (expT (bts ex))).toList.isEmpty || !((bts (stz (expT (bts ex)))).dropWhile (inS8 ⟨#[48]⟩)).isEmpty then 4 else if 9 < (stz (expT (bts ex))).size then 8 else 0) else 0 by
  rw [qB8,bts_expT,qA9,in_z48]; rfl)
 have HT:=hid (fun W=>trimPlus_c ex W)
 generalize er1 ⟨bts m,sc,bts ex,bts wh,bts fr,pt,bts ba⟩=E at *
 generalize stz (expT (bts ex))=T at *
 have HR:=hid (fun w v hv=>inRows1_c ⟨#[48]⟩ T v 254 w hv rfl (by decide))
 generalize ((bts T).dropWhile (inS8 ⟨#[48]⟩)).isEmpty=b2 at *
 go_enter Tryz.func181,Tryz.ntmps181
 go_upto_region 1 with fail
 rw [HW.out,Hg.out]
 cases sc
 · go_wp2_with (first
    | (go_at_call 235; refine (HT.out _).mono ?_; rintro e w' ⟨rfl,rfl⟩)
    | fail)
   go_ret
   rw [HER.out];exact ⟨rfl,Hg.out ▸ HX.out.b⟩
 · rcases hb1:T.toList.isEmpty with _ | _
   · rw [hb1] at HER
     rcases b2 with _ | _
     · go_wp2_with (first
        | (go_at_call 235; refine (HT.out _).mono ?_; rintro e w' ⟨rfl,rfl⟩)
        | (go_at_call 237; refine (of_c _ _).mono ?_; rintro e w1 ⟨B1,rfl,hv1,hbx⟩; have HX:=hid (HX.out.below hbx); have HV1:=hid hv1; clear hbx hv1)
        | (go_at_call 236; refine (HR.out _ _ HV1.out).mono ?_; rintro e w2 ⟨rfl,hbx⟩; have HX:=hid (HX.out.below hbx); clear hbx)
        | fail)
       go_ret
       rw [HER.out];exact ⟨rfl,Hg.out ▸ HX.out.b⟩
     · by_cases h9:9 < T.size
       · have h9':(9:Int) < (T.size:Int):=by omega
         rw [if_pos h9] at HER
         go_wp2_with (first
          | (go_at_call 235; refine (HT.out _).mono ?_; rintro e w' ⟨rfl,rfl⟩)
          | (go_at_call 237; refine (of_c _ _).mono ?_; rintro e w1 ⟨B1,rfl,hv1,hbx⟩; have HX:=hid (HX.out.below hbx); have HV1:=hid hv1; clear hbx hv1)
          | (go_at_call 236; refine (HR.out _ _ HV1.out).mono ?_; rintro e w2 ⟨rfl,hbx⟩; have HX:=hid (HX.out.below hbx); clear hbx)
          | fail)
         go_ret
         rw [HER.out];exact ⟨rfl,Hg.out ▸ HX.out.b⟩
       · have h9':¬ (9:Int) < (T.size:Int):=by omega
         rw [if_neg h9] at HER
         go_wp2_with (first
          | (go_at_call 235; refine (HT.out _).mono ?_; rintro e w' ⟨rfl,rfl⟩)
          | (go_at_call 237; refine (of_c _ _).mono ?_; rintro e w1 ⟨B1,rfl,hv1,hbx⟩; have HX:=hid (HX.out.below hbx); have HV1:=hid hv1; clear hbx hv1)
          | (go_at_call 236; refine (HR.out _ _ HV1.out).mono ?_; rintro e w2 ⟨rfl,hbx⟩; have HX:=hid (HX.out.below hbx); clear hbx)
          | fail)
         go_ret
         rw [HER.out];exact ⟨rfl,Hg.out ▸ HX.out.b⟩
   · rw [hb1] at HER
     go_wp2_with (first
      | (go_at_call 235; refine (HT.out _).mono ?_; rintro e w' ⟨rfl,rfl⟩)
      | fail)
     go_ret
     rw [HER.out];exact ⟨rfl,Hg.out ▸ HX.out.b⟩
end Go.Proofs.YtnoeonaajefajaaGreatDoor
set_option maxRecDepth 100000
namespace Go.Proofs.YtnoeonaajefajaaGreatDoor
open Go.RowKit
theorem mw_open {W:World} (h:W.ShapedOpen Tryz.prog):Mw W:=by
 obtain ⟨m,hm⟩:=Tryz.laysM219.s1_3 W h
 exact ⟨m,hm,World.block_lt_of_cell? W _ hm⟩
end Go.Proofs.YtnoeonaajefajaaGreatDoor
