import Derived.Lib.DecodeN
import Derived.Laws.Cover4
import Derived.Lib.OthersKept
import Derived.Test.YtohfadegildnaaaQKA
set_option linter.all false
set_option maxRecDepth 100000
namespace Go.Proofs.Ytohfadegildnaaa
def isC (c:Nat):Bool:=decide (c < 55296) || (decide (57344≤c) && decide (c≤1114111))
theorem qD2 {c:Nat}:isC c=true↔c < 55296∨(57344≤c∧c≤1114111):=by simp [isC]
theorem qD3 {c:Nat} (h:isC c=true):c≤1114111:=by have:=qD2.1 h; omega
def isZ (r:Int):Bool:=decide (0≤r) && isC r.toNat
theorem qBR (c:Nat):isZ (c:Int)=isC c:=by simp [isZ]
theorem qAQ {r:Int}:isZ r=true↔0≤r∧(r < 55296∨(57344≤r∧r≤1114111)):=by
 simp only [isZ,Bool.and_eq_true,decide_eq_true_eq,qD2]; omega
def encN (c:Nat):List Nat:=
 if c < 128 then [c] else if c < 2048 then [192+c / 64,128+c % 64] else if c < 65536 then [224+c / 4096,128+c / 64 % 64,128+c % 64]
 else [240+c / 262144,128+c / 4096 % 64,128+c / 64 % 64,128+c % 64]
theorem qAU (c:Nat):(c < 128∧encN c=[c])∨(128≤c∧c < 2048∧encN c=[192+c / 64,128+c % 64])∨(2048≤c∧c < 65536∧encN c=[224+c / 4096,128+c / 64 % 64,128+c % 64]) ∨
 (65536≤c∧encN c=[240+c / 262144,128+c / 4096 % 64,128+c / 64 % 64,128+c % 64]):=by
 unfold encN
 by_cases h1:c < 128
 · exact .inl ⟨h1,if_pos h1⟩
 · rw [if_neg h1]
   by_cases h2:c < 2048
   · exact .inr (.inl ⟨by omega,h2,if_pos h2⟩)
   · rw [if_neg h2]
     by_cases h3:c < 65536
     · exact .inr (.inr (.inl ⟨by omega,h3,if_pos h3⟩))
     · exact .inr (.inr (.inr ⟨by omega,if_neg h3⟩))
theorem qBG (c:Nat):1≤(encN c).length:=by rcases qAU c with ⟨_,h⟩ | ⟨_,_,h⟩ | ⟨_,_,h⟩ | ⟨_,h⟩ <;> rw [h] <;> simp
theorem qGD (c:Nat):(encN c).length≤4:=by rcases qAU c with ⟨_,h⟩ | ⟨_,_,h⟩ | ⟨_,_,h⟩ | ⟨_,h⟩ <;> rw [h] <;> simp
theorem qBS {c:Nat} (hc:isC c=true):∀ b ∈ encN c,b < 256:=by
 have:=qD3 hc
 rcases qAU c with ⟨_,h⟩ | ⟨_,_,h⟩ | ⟨_,_,h⟩ | ⟨_,h⟩ <;> rw [h] <;> simp <;> omega
def decL (l:List Nat):Nat × Nat:=Lib.decodeN l.length (l.getD 0 0) (l.getD 1 0) (l.getD 2 0) (l.getD 3 0)
theorem dec_enc {c:Nat} (hc:isC c=true) (t:List Nat):decL (encN c++t)=(c,(encN c).length):=by
 have hc':=qD2.1 hc
 unfold decL
 rcases qAU c with ⟨h1,h⟩ | ⟨h0,h1,h⟩ | ⟨h0,h1,h⟩ | ⟨h0,h⟩
 · rw [h]; simp [Lib.decodeN,h1]
 · rw [h]
   simp only [List.cons_append,List.nil_append,List.length_cons,List.length_nil,List.getD_cons_zero,List.getD_cons_succ,Lib.decodeN];rw [if_neg (by omega),if_pos (by omega),if_pos (by omega)];exact Prod.ext (by simp only; omega) rfl
 · rw [h]
   simp only [List.cons_append,List.nil_append,List.length_cons,List.length_nil,List.getD_cons_zero,List.getD_cons_succ,Lib.decodeN];have e:(224+c / 4096) % 16 * 4096+(128+c / 64 % 64) % 64 * 64+(128+c % 64) % 64=c:=by omega
   rw [e,if_neg (by omega),if_neg (by omega),if_pos (by omega),if_pos (by omega)]
 · rw [h]
   simp only [List.cons_append,List.nil_append,List.length_cons,List.length_nil,List.getD_cons_zero,List.getD_cons_succ,Lib.decodeN];have e:(240+c / 262144) % 8 * 262144+(128+c / 4096 % 64) % 64 * 4096+(128+c / 64 % 64) % 64 * 64+(128+c % 64) % 64=c:=by omega
   rw [e,if_neg (by omega),if_neg (by omega),if_neg (by omega),if_pos (by omega),if_pos (by omega)]
def fstN (l:List Nat):Option Nat:=if l.length=0∨decL l=(65533,1) then none else some (decL l).1
theorem qGE {c:Nat} (hc:isC c=true) (t:List Nat):fstN (encN c++t)=some c:=by
 have h:=qBG c
 unfold fstN
 rw [dec_enc hc,if_neg]
 rintro (h1 | h1)
 · rw [List.length_append] at h1; omega
 · obtain ⟨rfl,h2⟩:=Prod.mk.inj h1
   revert h2; decide
theorem fstN_nil:fstN []=none:=by simp [fstN]
theorem qHB (l:List Nat) (n:Nat) (hn:n≤l.length):l.take n=(List.range n).map fun j=>l.getD j 0:=by
 apply List.ext_getElem
 · simp; omega
 · intro i h1 h2
   simp at h1;simp [List.getD,List.getElem?_eq_getElem (show i < l.length by omega)]
theorem dec_good {l:List Nat} (hb:∀ b ∈ l,b < 256) (hp:0 < l.length) (h:decL l≠(65533,1)) :
 isC (decL l).1=true∧(encN (decL l).1).length=(decL l).2∧l.take (decL l).2=encN (decL l).1:=by
 have hg:∀ k,l.getD k 0 < 256:=by
  intro k
  rcases Nat.lt_or_ge k l.length with hk | hk
  · rw [List.getD,List.getElem?_eq_getElem hk]; exact hb _ (List.getElem_mem hk)
  · rw [List.getD,List.getElem?_eq_none hk]; decide
 have h0:=hg 0; have h1:=hg 1; have h2:=hg 2; have h3:=hg 3
 have hr:∀ n,n≤l.length→l.take n=(List.range n).map fun j=>l.getD j 0:=qHB l
 have hr1:=hr 1; have hr2:=hr 2; have hr3:=hr 3; have hr4:=hr 4
 simp only [List.range,List.range.loop,List.map_cons,List.map_nil] at hr1 hr2 hr3 hr4
 clear hg hb hr
 revert h
 unfold decL Lib.decodeN
 generalize l.getD 0 0=b0 at *
 generalize l.getD 1 0=b1 at *
 generalize l.getD 2 0=b2 at *
 generalize l.getD 3 0=b3 at *
 generalize l.length=n at *
 intro h
 split at h
 · rename_i c1
   rw [if_pos c1];have e:encN b0=[b0]:=by unfold encN; rw [if_pos c1]
   simp only [e,qD2];exact ⟨by omega,rfl,hr1 (by omega)⟩
 · rename_i c1
   rw [if_neg c1]
   split at h
   · rename_i c2
     rw [if_pos c2]
     split at h
     · rename_i c3
       rw [if_pos c3];have e:encN (b0 % 32 * 64+b1 % 64)=[b0,b1]:=by
        unfold encN;rw [if_neg (by omega),if_pos (by omega)];simp only [List.cons.injEq,and_true];omega
       simp only [e,qD2];exact ⟨by omega,rfl,(hr2 (by omega))⟩
     · exact absurd rfl h
   · rename_i c2
     rw [if_neg c2]
     split at h
     · rename_i c3
       rw [if_pos c3]
       split at h
       · rename_i c4
         rw [if_pos c4];have e:encN (b0 % 16 * 4096+b1 % 64 * 64+b2 % 64)=[b0,b1,b2]:=by
          unfold encN;rw [if_neg (by omega),if_neg (by omega),if_pos (by omega)];simp only [List.cons.injEq,and_true];omega
         simp only [e,qD2];exact ⟨by omega,rfl,(hr3 (by omega))⟩
       · exact absurd rfl h
     · rename_i c3
       rw [if_neg c3]
       split at h
       · rename_i c4
         rw [if_pos c4]
         split at h
         · rename_i c5
           rw [if_pos c5];have e:encN (b0 % 8 * 262144+b1 % 64 * 4096+b2 % 64 * 64+b3 % 64)=[b0,b1,b2,b3]:=by
            unfold encN;rw [if_neg (by omega),if_neg (by omega),if_neg (by omega)];simp only [List.cons.injEq,and_true];omega
           simp only [e,qD2];exact ⟨by omega,rfl,(hr4 (by omega))⟩
         · exact absurd rfl h
       · exact absurd rfl h
theorem qGF {l:List Nat} (hb:∀ b ∈ l,b < 256) {c:Nat} (h:fstN l=some c):isC c=true∧l=encN c++l.drop (encN c).length∧decL l=(c,(encN c).length):=by
 unfold fstN at h
 split at h
 · cases h
 · rename_i hn
   simp only [not_or] at hn;obtain ⟨h1,h2,h3⟩:=dec_good hb (by omega) hn.2;obtain rfl:(decL l).1=c:=Option.some.inj h;refine ⟨h1,?_,Prod.ext rfl h2.symm⟩;rw [h2]
   conv=>lhs; rw [← List.take_append_drop (decL l).2 l]
   rw [h3]
theorem qC2 {l:List Nat} (hb:∀ b ∈ l,b < 256):fstN l=none↔∀ c t,isC c=true→l≠encN c++t:=by
 constructor
 · intro h c t hc e
   rw [e,qGE hc] at h
   cases h
 · intro h
   rcases hf:fstN l with _ | c
   · rfl
   · obtain ⟨h1,h2,_⟩:=qGF hb hf
     exact absurd h2 (h c _ h1)
def encs (cs:List Nat):List Nat:=cs.flatMap encN
theorem encs_nil:encs []=[]:=rfl
theorem qAC (c:Nat) (cs:List Nat):encs (c :: cs)=encN c++encs cs:=rfl
theorem encs_append (us bs:List Nat):encs (us++bs)=encs us++encs bs:=by simp [encs]
theorem qEY (c:Nat):encs [c]=encN c:=by simp [encs]
theorem encs_len (cs:List Nat):cs.length≤(encs cs).length:=by
 induction cs with
 | nil=>simp
 | cons c cs ih=>rw [qAC]; have:=qBG c; simp; omega
def allC (cs:List Nat):Bool:=cs.all isC
theorem qAR {c:Nat} {cs:List Nat}:allC (c :: cs)=true↔isC c=true∧allC cs=true:=by simp [allC]
theorem allC_append {us bs:List Nat}:allC (us++bs)=true↔allC us=true∧allC bs=true:=by simp [allC]
theorem qGG {cs:List Nat} (h:allC cs=true):∀ b ∈ encs cs,b < 256:=by
 intro b hb
 obtain ⟨c,hc,hb⟩:=List.mem_flatMap.1 hb
 exact qBS (List.all_eq_true.1 h c hc) b hb
def qGH:Nat→List Nat→List Nat × List Nat
 | 0,l=>([],l)
 | n+1,l=>match fstN l with
  | none=>([],l)
  | some c=>(c :: (qGH n (l.drop (encN c).length)).1,(qGH n (l.drop (encN c).length)).2)
theorem qG1:∀ (n m:Nat) (l:List Nat),l.length≤n→l.length≤m→qGH n l=qGH m l
 | 0,0,l,_,_=>rfl
 | 0,m+1,l,h,_=>by
  obtain rfl:l=[]:=List.eq_nil_of_length_eq_zero (by omega);rfl
 | n+1,0,l,_,h=>by
  obtain rfl:l=[]:=List.eq_nil_of_length_eq_zero (by omega);rfl
 | n+1,m+1,l,h1,h2=>by
  unfold qGH
  rcases hf:fstN l with _ | c
  · rfl
  · have hp:=qBG c
    have hl:(l.drop (encN c).length).length=l.length - (encN c).length:=List.length_drop;have h0:0 < l.length:=by
     rcases l with _ | ⟨b,l⟩
     · rw [fstN_nil] at hf; cases hf
     · simp
    simp only [qG1 n m (l.drop (encN c).length) (by omega) (by omega)]
def cps (l:List Nat):List Nat:=(qGH l.length l).1
def rst (l:List Nat):List Nat:=(qGH l.length l).2
theorem qFB {l:List Nat} (h:fstN l=none):cps l=[]∧rst l=l:=by
 unfold cps rst
 rcases hn:l.length with _ | n
 · exact ⟨rfl,rfl⟩
 · simp only [qGH,h,and_self]
theorem qEZ {c:Nat} (hc:isC c=true) (t:List Nat):cps (encN c++t)=c :: cps t∧rst (encN c++t)=rst t:=by
 have hp:=qBG c
 unfold cps rst
 rw [show (encN c++t).length=((encN c).length - 1+t.length)+1 by simp; omega]
 simp only [qGH,qGE hc,List.drop_left]
 rw [qG1 _ t.length t (by omega) (Nat.le_refl _)]
 exact ⟨rfl,rfl⟩
theorem cps_nil:cps []=[]:=rfl
theorem rst_nil:rst []=[]:=rfl
theorem qE5 {cs:List Nat} (h:allC cs=true) (t:List Nat):cps (encs cs++t)=cs++cps t∧rst (encs cs++t)=rst t:=by
 induction cs with
 | nil=>exact ⟨rfl,rfl⟩
 | cons c cs ih=>
  obtain ⟨h1,h2⟩:=qAR.1 h;rw [qAC,List.append_assoc,(qEZ h1 _).1,(qEZ h1 _).2,(ih h2).1,(ih h2).2];exact ⟨rfl,rfl⟩
theorem cps_encs {cs:List Nat} (h:allC cs=true):cps (encs cs)=cs:=by have:=(qE5 h []).1; simpa [cps_nil] using this
theorem rst_encs {cs:List Nat} (h:allC cs=true):rst (encs cs)=[]:=by have:=(qE5 h []).2; simpa [rst_nil] using this
theorem qBT (l:List Nat) (hb:∀ b ∈ l,b < 256):l=encs (cps l)++rst l∧allC (cps l)=true∧fstN (rst l)=none:=by
 obtain ⟨n,hn⟩:∃ n,l.length=n:=⟨_,rfl⟩
 induction n using Nat.strongRecOn generalizing l with
 | ind n ih=>
  rcases hf:fstN l with _ | c
  · obtain ⟨h1,h2⟩:=qFB hf
    rw [h1,h2];exact ⟨rfl,rfl,hf⟩
  · obtain ⟨h1,h2,_⟩:=qGF hb hf
    have hp:=qBG c;have hlen:l.length=(encN c).length+(l.drop (encN c).length).length:=by
     conv=>lhs; rw [h2]
     simp
    have hi:=ih (l.drop (encN c).length).length (by omega) (l.drop (encN c).length) (fun b h=>hb b (List.mem_of_mem_drop h)) rfl;have e:=qEZ h1 (l.drop (encN c).length);rw [← h2] at e;rw [e.1,e.2];refine ⟨?_,qAR.2 ⟨h1,hi.2.1⟩,hi.2.2⟩;rw [qAC,List.append_assoc,← hi.1];exact h2
theorem qCE {l:List Nat} (hb:∀ b ∈ l,b < 256) (h:rst l=[]):l=encs (cps l):=by
 have:=(qBT l hb).1
 rwa [h,List.append_nil] at this
def badZ (l:List Nat):Int:=if rst l=[] then -1 else ((encs (cps l)).length:Int)
theorem qF0 {l:List Nat}:badZ l < 0↔rst l=[]:=by
 unfold badZ
 split
 · rename_i h; simp [h]
 · rename_i h; simp only [h,iff_false]; omega
theorem qG2 {l:List Nat} (h:rst l=[]):badZ l=-1:=by simp [badZ,h]
theorem badZ_wrong {l:List Nat} (h:rst l≠[]):badZ l=((encs (cps l)).length:Int):=by simp [badZ,h]
theorem badZ_range {l:List Nat} (hb:∀ b ∈ l,b < 256) : -1≤badZ l∧badZ l≤(l.length:Int):=by
 have h:=congrArg List.length (qBT l hb).1
 simp at h
 unfold badZ
 split <;> omega
theorem cps_len (l:List Nat) (hb:∀ b ∈ l,b < 256):(cps l).length≤l.length:=by
 have h:=congrArg List.length (qBT l hb).1
 have:=encs_len (cps l)
 simp at h
 omega
def qCN (b:Nat):Nat × Nat:=if b < 128 then (1,0) else if 192≤b∧b < 224 then (2,192) else if 224≤b∧b < 240 then (3,224) else if 240≤b∧b < 248 then (4,240) else (0,0)
def accL (l:List Nat) (o:Nat):Nat→Nat
 | 0=>0
 | 1=>l.getD 0 0 - o
 | i+2=>accL l o (i+1) * 64+(l.getD (i+1) 0 - 128)
theorem qD4 {c:Nat} (hc:isC c=true) (t:List Nat) {k o:Nat} (h:qCN ((encN c++t).getD 0 0)=(k,o)) :
 (encN c).length=k∧accL (encN c++t) o k=c∧∀ j,0 < j→j < k→128≤(encN c++t).getD j 0∧(encN c++t).getD j 0 < 192:=by
 have hl:=qD3 hc
 unfold qCN at h
 rcases qAU c with ⟨h1,e⟩ | ⟨h0,h1,e⟩ | ⟨h0,h1,e⟩ | ⟨h0,e⟩ <;> rw [e] at h ⊢ <;> simp only [List.cons_append,List.nil_append,List.getD_cons_zero] at h ⊢
 · rw [if_pos h1] at h
   obtain ⟨rfl,rfl⟩:=Prod.mk.inj h;exact ⟨rfl,by simp [accL],fun j h1 h2=>by omega⟩
 · rw [if_neg (by omega),if_pos (by omega)] at h
   obtain ⟨rfl,rfl⟩:=Prod.mk.inj h;refine ⟨rfl,by simp only [accL,List.getD_cons_zero,List.getD_cons_succ,Nat.zero_add]; omega,fun j h1 h2=>?_⟩;obtain rfl:j=1:=by omega
   simp only [List.getD_cons_zero,List.getD_cons_succ]; omega
 · rw [if_neg (by omega),if_neg (by omega),if_pos (by omega)] at h
   obtain ⟨rfl,rfl⟩:=Prod.mk.inj h;refine ⟨rfl,by simp only [accL,List.getD_cons_zero,List.getD_cons_succ,Nat.zero_add]; omega,fun j h1 h2=>?_⟩
   rcases (by omega:j=1∨j=2) with rfl | rfl <;> simp only [List.getD_cons_zero,List.getD_cons_succ] <;> omega
 · rw [if_neg (by omega),if_neg (by omega),if_neg (by omega),if_pos (by omega)] at h
   obtain ⟨rfl,rfl⟩:=Prod.mk.inj h;refine ⟨rfl,by simp only [accL,List.getD_cons_zero,List.getD_cons_succ,Nat.zero_add]; omega,fun j h1 h2=>?_⟩
   rcases (by omega:j=1∨j=2∨j=3) with rfl | rfl | rfl <;> simp only [List.getD_cons_zero,List.getD_cons_succ] <;> omega
theorem klass_zero {c:Nat} (hc:isC c=true) (t:List Nat):(qCN ((encN c++t).getD 0 0)).1≠0:=by
 intro h
 have h2:qCN ((encN c++t).getD 0 0)=(0,(qCN ((encN c++t).getD 0 0)).2):=Prod.ext h rfl
 have:=(qD4 hc t h2).1
 have:=qBG c
 omega
theorem qHC {l:List Nat} (hb:∀ b ∈ l,b < 256) (h:(qCN (l.getD 0 0)).1=0):fstN l=none:=by
 rw [qC2 hb]
 rintro c t hc rfl
 exact klass_zero hc t h
theorem qFC {l:List Nat} (hb:∀ b ∈ l,b < 256) {k o:Nat} (h:qCN (l.getD 0 0)=(k,o)) (hk:l.length < k):fstN l=none:=by
 rw [qC2 hb]
 rintro c t hc rfl
 have:=(qD4 hc t h).1
 rw [List.length_append] at hk
 omega
theorem qCF {l:List Nat} (hb:∀ b ∈ l,b < 256) {k o:Nat} (h:qCN (l.getD 0 0)=(k,o)) {j:Nat} (h0:0 < j) (hk:j < k) (hj:l.getD j 0 < 128∨191 < l.getD j 0):fstN l=none:=by
 rw [qC2 hb]
 rintro c t hc rfl
 have:=(qD4 hc t h).2.2 j h0 hk
 omega
theorem qGI {l:List Nat} (hb:∀ b ∈ l,b < 256) {k o:Nat} (h:qCN (l.getD 0 0)=(k,o)) (_hk0:0 < k) :
 (isC (accL l o k)=true→encN (accL l o k)=l.take k→fstN l=some (accL l o k)∧(encN (accL l o k)).length=k)∧((isC (accL l o k)=false∨encN (accL l o k)≠l.take k)→fstN l=none):=by
 constructor
 · intro hc he
   have e:l=encN (accL l o k)++l.drop k:=by rw [he,List.take_append_drop]
   have hf:fstN l=some (accL l o k):=by
    have:=qGE hc (l.drop k)
    rwa [← e] at this
   refine ⟨hf,?_⟩;have h2:=h;rw [e] at h2;exact (qD4 hc (l.drop k) h2).1
 · intro hn
   rw [qC2 hb];rintro c t hc rfl;obtain ⟨h1,h2,_⟩:=qD4 hc t h;rw [h2] at hn
   rcases hn with hn | hn
   · rw [hc] at hn; cases hn
   · apply hn
     rw [← h1,List.take_left]
theorem klass_1 {b:Nat} (h:b < 128):qCN b=(1,0):=by rw [qCN,if_pos h]
theorem klass_2 {b:Nat} (h:192≤b) (h':b < 224):qCN b=(2,192):=by rw [qCN,if_neg (by omega),if_pos (by omega)]
theorem klass_3 {b:Nat} (h:224≤b) (h':b < 240):qCN b=(3,224):=by rw [qCN,if_neg (by omega),if_neg (by omega),if_pos (by omega)]
theorem klass_4 {b:Nat} (h:240≤b) (h':b < 248):qCN b=(4,240):=by rw [qCN,if_neg (by omega),if_neg (by omega),if_neg (by omega),if_pos (by omega)]
theorem klass_0 {b:Nat} (h:(128≤b∧b < 192)∨248≤b):(qCN b).1=0:=by rw [qCN,if_neg (by omega),if_neg (by omega),if_neg (by omega),if_neg (by omega)]
def fstP (l:List Nat):Int × Int:=match fstN l with
 | some c=>((c:Int),((encN c).length:Int))
 | none=>(0,0)
theorem qAB {l:List Nat} (h:fstN l=none):fstP l=(0,0):=by rw [fstP,h]
theorem qCG {l:List Nat} {c:Nat} (h:fstN l=some c):fstP l=((c:Int),((encN c).length:Int)):=by rw [fstP,h]
open Go.RowKit
open Lib (hid)
def bts (s:ByteArray):List Nat:=s.data.toList.map UInt8.toNat
theorem qA0 (s:ByteArray):(bts s).length=s.size:=by simp [bts]
theorem qAF (s:ByteArray):∀ b ∈ bts s,b < 256:=by
 intro b hb
 obtain ⟨x,_,rfl⟩:=List.mem_map.1 hb
 exact x.toNat_lt
theorem qBA (s:ByteArray) (k:Nat) (hk:k < s.size):(bts s).getD k 0=s[k].toNat:=by
 have hk':k < s.data.toList.length:=by simpa using hk
 simp only [bts,List.getD,List.getElem?_map,List.getElem?_eq_getElem hk',Option.map_some,Option.getD_some]
 rfl
theorem bts_getD (s:ByteArray) (k:Nat):(bts s).getD k 0=(s.get! k).toNat:=by
 rcases Nat.lt_or_ge k s.size with hk | hk
 · rw [qBA s k hk]
   have:s.get! k=s[k]:=by
    show s.data[k]! = s.data[k]
    rw [getElem!_pos s.data k hk]
   rw [this]
 · rw [List.getD,List.getElem?_eq_none (by rw [qA0]; exact hk)]
   have:s.get! k=default:=by
    show s.data[k]! = default
    rw [getElem!_neg s.data k (by simpa using hk)]
   rw [this]; rfl
theorem qCO (s:ByteArray) (i j:Nat):bts (s.extract i j)=((bts s).take j).drop i:=by
 simp only [bts,ByteArray.data_extract,Array.toList_extract,List.extract_eq_take_drop,List.map_take,List.map_drop]
 rw [List.drop_take]
theorem qDL (s:ByteArray) (i:Nat):bts (s.extract i s.size)=(bts s).drop i:=by
 rw [qCO,List.take_of_length_le (by rw [qA0]; exact Nat.le_refl _)]
theorem qE6 (s:ByteArray) (j:Nat):bts (s.extract 0 j)=(bts s).take j:=by
 rw [qCO,List.drop_zero]
theorem qCH (s t:ByteArray):bts (s++t)=bts s++bts t:=by
 simp [bts]
theorem bts_inj {s t:ByteArray} (h:bts s=bts t):s=t:=by
 have h2:s.data.toList=t.data.toList:=by
  have hinj:∀ a b:List UInt8,a.map UInt8.toNat=b.map UInt8.toNat→a=b:=by
   intro a b hab;exact List.map_inj_right (fun x y hxy=>UInt8.toNat_inj.1 hxy) |>.1 hab
  exact hinj _ _ h
 cases s; cases t
 simpa using h2
def stz (l:List Nat):ByteArray:=⟨(l.map UInt8.ofNat).toArray⟩
theorem qAS {l:List Nat} (h:∀ b ∈ l,b < 256):bts (stz l)=l:=by
 simp only [bts,stz,List.map_map]
 conv=>rhs; rw [← List.map_id l]
 refine List.map_congr_left fun x hx=>?_
 have:=h x hx
 simp only [Function.comp,UInt8.toNat_ofNat',id]
 omega
theorem stz_bts (s:ByteArray):stz (bts s)=s:=bts_inj (qAS (qAF s))
theorem qAK (l:List Nat):(stz l).size=l.length:=by simp [stz,ByteArray.size]
theorem qHD {s:ByteArray} {l:List Nat} (h:bts s=l):s=stz l:=by rw [← h,stz_bts]
theorem qEI (a b:List Nat):stz (a++b)=stz a++stz b:=by
 have h:∀ x y:List UInt8,(⟨(x++y).toArray⟩:ByteArray)=⟨x.toArray⟩++⟨y.toArray⟩:=by
  intro x y
  apply ByteArray.ext
  simp
 simp only [stz,List.map_append]
 exact h _ _
theorem qEJ (s:ByteArray):s.toList.map UInt8.toNat=bts s:=by rw [ByteArray.toList_eq]; rfl
theorem qAD (s t:ByteArray):(s.toList == t.toList)=decide (bts s=bts t):=by
 rw [Bool.eq_iff_iff,beq_iff_eq,decide_eq_true_eq]
 constructor
 · intro h; rw [← qEJ,← qEJ,h]
 · intro h; rw [bts_inj h]
theorem qAO (s:ByteArray):s.toList.isEmpty=decide (s.size=0):=by
 have h:=congrArg List.length (qEJ s)
 rw [List.length_map,qA0] at h
 rw [Bool.eq_iff_iff,decide_eq_true_eq,← h,List.isEmpty_iff]
 exact ⟨fun e=>by rw [e]; rfl,fun e=>List.eq_nil_of_length_eq_zero e⟩
theorem qEK (s:ByteArray) (i:Nat):Utf8.decode s i=decL ((bts s).drop i):=by
 have hg:∀ k,((bts s).drop i).getD k 0=(s.get! (i+k)).toNat:=by
  intro k;rw [← bts_getD,List.getD,List.getD,List.getElem?_drop]
 rw [Lib.decode_at,decL,hg,hg,hg,hg,List.length_drop,qA0]
 rfl
theorem bts_drop_lt (s:ByteArray) (i:Nat):∀ b ∈ (bts s).drop i,b < 256:=fun b hb=>qAF s b (List.mem_of_mem_drop hb)
def Upto (s:ByteArray) (p:Nat) (cs:List Nat):Prop:=p≤s.size∧allC cs=true∧(bts s).take p=encs cs
theorem Upto.zero (s:ByteArray):Upto s 0 []:=⟨Nat.zero_le _,rfl,rfl⟩
theorem Upto.len {s:ByteArray} {p:Nat} {cs:List Nat} (h:Upto s p cs):(encs cs).length=p:=by
 rw [← h.2.2,List.length_take,qA0]; have:=h.1; omega
theorem Upto.split {s:ByteArray} {p:Nat} {cs:List Nat} (h:Upto s p cs):bts s=encs cs++(bts s).drop p:=by rw [← h.2.2,List.take_append_drop]
theorem Upto.scan {s:ByteArray} {p:Nat} {cs:List Nat} (h:Upto s p cs):cps (bts s)=cs++cps ((bts s).drop p)∧rst (bts s)=rst ((bts s).drop p):=by
 have e:=qE5 h.2.1 ((bts s).drop p)
 rwa [← h.split] at e
theorem Upto.count {s:ByteArray} {p:Nat} {cs:List Nat} (h:Upto s p cs):cs.length≤p:=by rw [← h.len]; exact encs_len cs
theorem Upto.end_ {s:ByteArray} {p:Nat} {cs:List Nat} (h:Upto s p cs) (hp:¬ p < s.size):cps (bts s)=cs∧rst (bts s)=[]∧badZ (bts s)=-1:=by
 have e:=h.scan
 rw [List.drop_eq_nil_of_le (by rw [qA0]; omega),cps_nil,rst_nil,List.append_nil] at e
 exact ⟨e.1,e.2,qG2 e.2⟩
theorem Upto.here {s:ByteArray} {p:Nat} {cs:List Nat} (h:Upto s p cs) (hp:p < s.size) (hn:fstN ((bts s).drop p)=none):cps (bts s)=cs∧rst (bts s)≠[]∧badZ (bts s)=(p:Int):=by
 have e:=h.scan
 rw [(qFB hn).1,(qFB hn).2,List.append_nil] at e
 have hne:rst (bts s)≠[]:=by
  rw [e.2];intro h0;have:=congrArg List.length h0;rw [List.length_drop,qA0] at this;simp at this;omega
 exact ⟨e.1,hne,by rw [badZ_wrong hne,e.1,h.len]⟩
theorem Upto.step {s:ByteArray} {p:Nat} {cs:List Nat} (h:Upto s p cs) {c:Nat} (hf:fstN ((bts s).drop p)=some c) :
 isC c=true∧Upto s (p+(encN c).length) (cs++[c])∧Utf8.decode s p=(c,(encN c).length)∧1≤(encN c).length:=by
 obtain ⟨h1,h2,h3⟩:=qGF (bts_drop_lt s p) hf
 have hl:=congrArg List.length h2
 rw [List.length_append,List.length_drop,qA0] at hl
 have hp:=qBG c
 refine ⟨h1,⟨by have:=h.1; omega,allC_append.2 ⟨h.2.1,by simp [allC,h1]⟩,?_⟩,by rw [qEK,h3],hp⟩
 have e:bts s=(encs cs++encN c)++((bts s).drop p).drop (encN c).length:=by
  rw [List.append_assoc,← h2]; exact h.split
 have hL:(encs cs++encN c).length=p+(encN c).length:=by rw [List.length_append,h.len]
 rw [encs_append,qEY]
 conv=>lhs; rw [e]
 rw [← hL,List.take_append_of_le_length (Nat.le_refl _),List.take_of_length_le (Nat.le_refl _)]
def rgt (l:List Nat):Bool:=decide (rst l=[])
def pts (l:List Nat):List Nat:=if rst l=[] then cps l else []
theorem qGJ {l:List Nat} (h:rst l=[]):rgt l=true∧pts l=cps l:=⟨by simp [rgt,h],by simp [pts,h]⟩
theorem rgt_false {l:List Nat} (h:rst l≠[]):rgt l=false∧pts l=[]:=⟨by simp [rgt,h],by simp [pts,h]⟩
theorem pts_len {l:List Nat} (hb:∀ b ∈ l,b < 256):(pts l).length≤l.length:=by
 unfold pts; split
 · exact cps_len l hb
 · simp
def ints (cs:List Nat):List Int:=cs.map fun (c:Nat)=>(c:Int)
theorem ints_length (cs:List Nat):(ints cs).length=cs.length:=by simp [ints]
theorem qFD (us bs:List Nat):ints (us++bs)=ints us++ints bs:=by simp [ints]
theorem ints_range {cs:List Nat} (h:allC cs=true):∀ z ∈ ints cs,0≤z∧z≤1114111:=by
 intro z hz
 obtain ⟨c,hc,rfl⟩:=List.mem_map.1 hz
 have:=qD3 (List.all_eq_true.1 h c hc)
 omega
def i32s (zs:List Int):List Value:=zs.map (Value.int .i32)
theorem qFE (zs:List Int):(i32s zs).length=zs.length:=by simp [i32s]
theorem i32s_get (zs:List Int) (k:Nat):(i32s zs)[k]? = (zs[k]?).map (Value.int .i32):=by simp [i32s]
theorem i32s_append (zs ys:List Int):i32s (zs++ys)=i32s zs++i32s ys:=by simp [i32s]
theorem i32_info:(Try.prog.info? 21).map (fun i=>(i.zero,i.size,i.bytes))=some (some (.int .i32 0),1,4):=by kernel_rfl
def Rns (w:World) (A:Option Addr) (n:Nat) (zs:List Int):Prop:=qAZ w w.heap.size 1 A n (i32s zs)∧n≤36000000000000∧∀ z ∈ zs,-2147483648≤z∧z≤2147483647
section
variable {w w':World} {n:Nat} {A:Option Addr} {zs:List Int}
theorem Rns.len (h:Rns w A n zs):zs.length=n:=by have:=h.1.1; simpa [qFE] using this
theorem Rns.below (h:Rns w A n zs) (hb:Below w.heap.size w w'):Rns w' A n zs:=⟨(h.1.below hb).more hb.size,h.2⟩
theorem Rns.at_ {k:Nat} (h:Rns w A n zs) (hk:k < n):∃ ad,A=some ad∧ad.block < w.heap.size∧w.cell? (ad.add k)=some (.int .i32 (zs.getD k 0))∧-2147483648≤zs.getD k 0∧zs.getD k 0≤2147483647:=by
 obtain ⟨ad,u,e,hb,hx,hc⟩:=h.1.at_ hk
 have hl:k < zs.length:=by rw [h.len]; exact hk
 rw [i32s_get,List.getElem?_eq_getElem hl] at hx
 simp at hx
 subst hx
 refine ⟨ad,e,hb,?_,?_⟩
 · rw [hc]; simp [List.getD,List.getElem?_eq_getElem hl]
 · simp only [List.getD,List.getElem?_eq_getElem hl,Option.getD_some]; exact h.2.2 _ (List.getElem_mem hl)
end
def OwnR (w:World) (base:Nat) (A:Option Addr) (m c:Nat) (zs:List Int):Prop:=
 w.ownsRow base 21 1 (.slice A m c) m (i32s zs)∧m≤100000000000∧∀ z ∈ zs,-2147483648≤z∧z≤2147483647
section
variable {w w':World} {base m c:Nat} {A:Option Addr} {zs:List Int}
theorem OwnR.len (h:OwnR w base A m c zs):zs.length=m:=by have:=h.1.1; simpa [qFE] using this
theorem OwnR.rns (h:OwnR w base A m c zs):Rns w A m zs:=⟨qAZ.of_own h.1,Nat.le_trans h.2.1 (by omega),h.2.2⟩
end
theorem ownR_nil (w:World) (base:Nat):OwnR w base none 0 0 []:=⟨World.ownsRow_nil _ _ _ _,by omega,by simp⟩
theorem qAT {w:World} {base n:Nat} {v:Value} {xs:List Nat} (h:w.ownsRow base 5 1 v n (u8s xs)) (hx:∀ x ∈ xs,x < 256) :
 (convert 67 9 v).run Try.prog w=.ok (.string (stz xs)) w:=by
 obtain ⟨s,h1,h2⟩:=conv_own h hx
 rw [h1,qHD (s:=s) h2]
theorem qDQ {W w0:World} {ops:Array Oper} {rest:List Oper} {o:Oper} {a:Act} {Q:Exit→Act→World→Prop} (hgd:o.guard=none) (s x:Operand) (t:TypeId)
 (ho:o.op=.call { callee:=.builtin .append,args:=#[s,x],argTypes:=#[t,t] }) (ht:Try.prog.underlying t=some (.slice 21))
 (base:Nat) (v:Value) (k:Nat) (xs:List Int) (hs:a.eval s=v) (hown:W.ownsRow base 21 1 v k (i32s xs)) (E:Int)
 (hx:a.eval x=.slice (some ⟨W.heap.size,0,none⟩) 1 1) (X:Int) (hE:E=X) (hk:k≤10000000000) (hb:Below base w0 W) (hbase:base≤W.heap.size)
 (h:∀ v' w',Hid (w'.ownsRow base 21 1 v' (k+1) (i32s (xs++[X])))→Hid (Below base w0 w')→Hid (∀ k,k < W.heap.size→v.ownBlock≠some k→w'.heap[k]? = W.heap[k]?)→wpList Try.prog ops Q rest (a.put o.dst v') w') :
 wpList Try.prog ops Q (o :: rest) a (W.alloc (.cells #[.int .i32 E] 21)):=by
 obtain ⟨i0,hi,hz0,hz1,hz2⟩:=info_parts i32_info
 subst hE
 refine wpList_append_own _ hgd s x t ho base 21 i0 (.int .i32 0) 1 4 ht hi hz0 hz1 hz2 rfl (by decide) v k _ hs (hown.alloc _) ⟨W.heap.size,0,none⟩ 1 1 [.int .i32 E] hx rfl (qHA W _ _) ?_ ?_ ?_ ?_ ?_
 · simp [Value.oneCell']
 · unfold maxLen; omega
 · omega
 · simp; omega
 · intro v' w' h1 h2 _
   refine h v' w' ?_ ?_ ?_
   · rw [i32s_append]; exact h1
   · refine (hb.alloc hbase _).grown h2 (by simp; omega) fun j hj=>?_
     exact (hown.lt j hj).1
   · intro k hk hne
     rw [h2.block k (by simp; omega) (fun e=>hne e.symm)]
     show (W.heap.push _)[k]? = _
     rw [Array.getElem?_push_lt hk,Array.getElem?_eq_getElem hk]
set_option maxHeartbeats 400000 in
theorem qDY (r:Int) (w:World):Calls Try.prog 55 #[.int .i32 r] w fun e w'=>e=.returned (.bool (isZ r))∧w=w':=by
 by_cases h0:0≤r
 · by_cases h1:r≤1114111
   · by_cases h2:r < 55296
     · have hz:isZ r=true:=qAQ.2 (by omega)
       rw [hz]
       go_enter Try.func55,Try.ntmps55
       go_wp2
       go_ret
       exact ⟨rfl,rfl⟩
     · by_cases h3:57343 < r
       · have hz:isZ r=true:=qAQ.2 (by omega)
         rw [hz]
         go_enter Try.func55,Try.ntmps55
         go_wp2
         go_ret
         exact ⟨rfl,rfl⟩
       · have hz:isZ r=false:=by rw [Bool.eq_false_iff]; intro h; have:=qAQ.1 h; omega
         rw [hz]
         go_enter Try.func55,Try.ntmps55
         go_wp2
         go_ret
         exact ⟨rfl,rfl⟩
   · have hz:isZ r=false:=by rw [Bool.eq_false_iff]; intro h; have:=qAQ.1 h; omega
     rw [hz]
     go_enter Try.func55,Try.ntmps55
     go_wp2
     go_ret
     exact ⟨rfl,rfl⟩
 · have hz:isZ r=false:=by rw [Bool.eq_false_iff]; intro h; have:=qAQ.1 h; omega
   rw [hz]
   go_enter Try.func55,Try.ntmps55
   go_wp2
   go_ret
   exact ⟨rfl,rfl⟩
set_option maxHeartbeats 400000 in
theorem qAP (r:Int) (w:World):Calls Try.prog 36 #[.int .i32 r] w fun e w'=>e=.returned (.bool (isZ r))∧w=w':=by
 by_cases h0:0≤r
 · by_cases h1:r≤1114111
   · by_cases h2:r < 55296
     · have hz:isZ r=true:=qAQ.2 (by omega)
       rw [hz]
       go_enter Try.func36,Try.ntmps36
       go_wp2
       go_ret
       exact ⟨rfl,rfl⟩
     · by_cases h3:57343 < r
       · have hz:isZ r=true:=qAQ.2 (by omega)
         rw [hz]
         go_enter Try.func36,Try.ntmps36
         go_wp2
         go_ret
         exact ⟨rfl,rfl⟩
       · have hz:isZ r=false:=by rw [Bool.eq_false_iff]; intro h; have:=qAQ.1 h; omega
         rw [hz]
         go_enter Try.func36,Try.ntmps36
         go_wp2
         go_ret
         exact ⟨rfl,rfl⟩
   · have hz:isZ r=false:=by rw [Bool.eq_false_iff]; intro h; have:=qAQ.1 h; omega
     rw [hz]
     go_enter Try.func36,Try.ntmps36
     go_wp2
     go_ret
     exact ⟨rfl,rfl⟩
 · have hz:isZ r=false:=by rw [Bool.eq_false_iff]; intro h; have:=qAQ.1 h; omega
   rw [hz]
   go_enter Try.func36,Try.ntmps36
   go_wp2
   go_ret
   exact ⟨rfl,rfl⟩
theorem qGK {W:World} {base:Nat} (hb:base≤W.heap.size) (xs:List Nat) (vs:Array Value) (hv:vs.toList=u8s xs) (n:Nat) (hn:n=xs.length) (hm:n≤1000) :
 (W.alloc (.cells vs 5)).ownsRow base 5 1 (.slice (some ⟨W.heap.size,0,none⟩) n n) n (u8s xs):=by
 subst hn
 refine ⟨by simp [u8s],.inr ⟨W.heap.size,xs.length,vs,rfl,hb,heap_alloc_new W _,Nat.le_refl _,by unfold maxLen; omega,?_,?_⟩⟩
 · have:=congrArg List.length hv
   simpa [u8s] using this
 · rw [hv,List.take_of_length_le (by simp [u8s])]
set_option maxHeartbeats 1000000 in
theorem qBB (c:Nat) (w:World) (hc:isC c=true):Calls Try.prog 27 #[.int .i32 (c:Int)] w fun e w'=>
 ∃ A m k,e=.returned (.slice A m k)∧w'.ownsRow w.heap.size 5 1 (.slice A m k) m (u8s (encN c))∧m=(encN c).length∧Below w.heap.size w w':=by
 have hl:=qD3 hc
 rcases qAU c with ⟨h1,he⟩ | ⟨h0,h1,he⟩ | ⟨h0,h1,he⟩ | ⟨h0,he⟩
 · have HE:=hid he
   clear he
   go_enter Try.func27,Try.ntmps27
   go_wp2
   go_ret
   rw [HE.out];exact ⟨_,_,_,rfl,qGK (Nat.le_refl _) [c] _ rfl 1 rfl (by omega),rfl,(Below.refl _ _).alloc (Nat.le_refl _) _⟩
 · have HE:=hid he
   have i0:¬ (c:Int) < 128:=by omega
   have i1:(c:Int) < 2048:=by omega
   clear he
   go_enter Try.func27,Try.ntmps27
   go_wp2
   go_ret
   rw [HE.out];exact ⟨_,_,_,rfl,qGK (Nat.le_refl _) [192+c / 64,128+c % 64] _ (by simp [u8s]) 2 rfl (by omega),rfl,(Below.refl _ _).alloc (Nat.le_refl _) _⟩
 · have HE:=hid he
   have i0:¬ (c:Int) < 128:=by omega
   have i1:¬ (c:Int) < 2048:=by omega
   have i2:(c:Int) < 65536:=by omega
   clear he
   go_enter Try.func27,Try.ntmps27
   go_wp2
   go_ret
   rw [HE.out];exact ⟨_,_,_,rfl,qGK (Nat.le_refl _) [224+c / 4096,128+c / 64 % 64,128+c % 64] _ (by simp [u8s]) 3 rfl (by omega),rfl,(Below.refl _ _).alloc (Nat.le_refl _) _⟩
 · have HE:=hid he
   have i0:¬ (c:Int) < 128:=by omega
   have i1:¬ (c:Int) < 2048:=by omega
   have i2:¬ (c:Int) < 65536:=by omega
   clear he
   go_enter Try.func27,Try.ntmps27
   go_wp2
   go_ret
   rw [HE.out];exact ⟨_,_,_,rfl,qGK (Nat.le_refl _) [240+c / 262144,128+c / 4096 % 64,128+c / 64 % 64,128+c % 64] _ (by simp [u8s]) 4 rfl (by omega),rfl,(Below.refl _ _).alloc (Nat.le_refl _) _⟩
end Go.Proofs.Ytohfadegildnaaa
set_option maxRecDepth 100000
namespace Go.Proofs.Ytohfadegildnaaa
open Go.ChangeShapes Go.WideShapes Go.ChangeAt Go.RowKit
theorem i32_range {n:Int} (h:(Lit.int .i32 n).wf=true) : -2147483648≤n∧n≤2147483647:=by
 have e1:IntKind.i32.min=-2147483648:=rfl
 have e2:IntKind.i32.max=2147483647:=rfl
 simp only [Lit.wf,Bool.and_eq_true,decide_eq_true_eq] at h
 omega
end Go.Proofs.Ytohfadegildnaaa
set_option maxRecDepth 100000
namespace Go.Proofs.Ytohfadegildnaaa
def sysZ (z:Int):Bool:=decide (0≤z∧(z+9 < 55296∨(57344≤z∧z+9≤1114111)))
theorem qBP {z:Int}:sysZ z=true↔0≤z∧(z+9 < 55296∨(57344≤z∧z+9≤1114111)):=by simp [sysZ]
theorem sysZ_all {z:Int} (h:∀ j:Nat,j < 10→isZ (z+(j:Int))=true):sysZ z=true:=by
 have h0:=qAQ.1 (h 0 (by omega))
 have h9:=qAQ.1 (h 9 (by omega))
 rw [qBP]
 omega
theorem sysZ_no {z:Int} {j:Nat} (hj:j < 10) (h:isZ (z+(j:Int))=false):sysZ z=false:=by
 rcases hs:sysZ z with _ | _
 · rfl
 · have h1:=qBP.1 hs
   rw [qAQ.2 (by omega)] at h
   cases h
def inS (Z c:Nat):Bool:=decide (Z≤c) && decide (c < Z+10)
theorem qH1 {Z c:Nat}:inS Z c=true↔Z≤c∧c < Z+10:=by simp [inS]
theorem inS_no {Z c:Nat} (h:inS Z c=false):c < Z∨Z+10≤c:=by
 rcases Nat.lt_or_ge c Z with h1 | h1
 · exact .inl h1
 · rcases Nat.lt_or_ge c (Z+10) with h2 | h2
   · rw [qH1.2 ⟨h1,h2⟩] at h; cases h
   · exact .inr h2
def isB (z r:Int):Bool:=sysZ z && (decide (z≤r) && decide (r < z+10))
theorem isB_nat {Z:Nat} (hZ:sysZ (Z:Int)=true) (c:Nat):isB (Z:Int) (c:Int)=inS Z c:=by
 rw [isB,hZ,Bool.true_and,Bool.eq_iff_iff,qH1]
 simp only [Bool.and_eq_true,decide_eq_true_eq]
 omega
def hi (Z:Nat) (l:List Nat):List Nat:=l.map fun b=>Z+(b - 48)
end Go.Proofs.Ytohfadegildnaaa
