import Derived.Test.YtohfadegildnaaaQSA
set_option linter.all false
set_option maxRecDepth 100000
namespace Go.Proofs.Ytohfadegildnaaa
def z1 (t:Tok):Tok:=(t.1,t.2.1,0)
def z0 (e:El):El:=(z1 e.1,e.2)
def tlE (t:List Nat):Prop:=∃ (pl:Bool) (n:Nat),t=69 :: ((if pl then [43] else [])++List.replicate (n+1) 48)
def ShN (N:List Nat):Prop:=∃ B t,N=B++t∧B≠[]∧(∀ c ∈ B,okB c=true)∧(t=[]∨tlE t)
theorem numB_sh {body:List Nat} {sci:Bool} {me:Nat} {plus:Bool} {p:NF} (h:numB body sci me plus=(p,0)) (hexp:(sci=true∧1≤me∧me≤9)∨(sci=false∧me=0∧plus=false)):body≠[]∧∀ c ∈ body,okB c=true:=by
 obtain ⟨h1,h2,-⟩:=numB_ok h hexp
 obtain ⟨-,hne,-⟩:=numW_form h2
 refine ⟨?_,List.all_eq_true.1 h1⟩
 rintro rfl
 exact hne rfl
theorem num_sh {N:List Nat} {p:NF} (h:numZ N=(p,0)):ShN N:=by
 unfold numZ at h
 cases ha:N.any (· == 69)
 · rw [ha,if_neg (by decide),cut_none ha] at h
   obtain ⟨h1,h2⟩:=numB_sh h (.inr ⟨rfl,rfl,rfl⟩);exact ⟨N,[],by simp,h1,h2,.inl rfl⟩
 · rw [ha,if_pos rfl] at h
   split at h
   · rename_i h1; exact absurd (Prod.mk.inj h).2 h1
   · rename_i h1
     have h1:(expZ (dnA 69 N)).1=0:=Decidable.not_not.1 h1;obtain ⟨h2,h3⟩:=numB_sh h (.inl ⟨rfl,expZ_ok h1⟩);have hsp:N=upA 69 N++69 :: dnA 69 N:=by
      have e:=List.takeWhile_append_dropWhile (p:=(· != 69)) (l:=N);have hd:N.dropWhile (· != 69)≠[]:=by
       intro e0;rw [e0,List.append_nil] at e;obtain ⟨x,hx,hx9⟩:=List.any_eq_true.1 ha;rw [← e] at hx;have:=tw_mem hx;rw [beq_iff_eq] at hx9;subst hx9
       cases this
      cases hdw:N.dropWhile (· != 69) with
      | nil=>exact absurd hdw hd
      | cons x r=>
       have hx:=qHI N x (A:=(· != 69)) (by rw [hdw]; rfl);have hx:x=69:=by simpa using hx
       subst hx;rw [upA,dnA,hdw];rw [hdw] at e;exact e.symm
     refine ⟨_,_,hsp,h2,h3,.inr ?_⟩;generalize dnA 69 N=e at *;have hx:(expT e).isEmpty=false∧(expT e).all z48=true:=by
      unfold expZ at h1
      split at h1
      · exact absurd h1 (by decide)
      · rename_i g
        simp only [Bool.or_eq_true,not_or,Bool.not_eq_true,Bool.not_eq_false'] at g;exact ⟨g.1,by simpa using g.2⟩
     have hr:∀ l:List Nat,l.all z48=true→l=List.replicate l.length 48:=fun l hl=>List.eq_replicate_iff.2 ⟨rfl,fun x hx=>z48_iff.1 (List.all_eq_true.1 hl x hx)⟩
     have hlen:∃ n,(expT e).length=n+1:=⟨(expT e).length - 1,by
      have:(expT e)≠[]:=fun e0=>by rw [e0] at hx; cases hx.1
      have:=List.length_pos_iff.2 this;omega⟩
     obtain ⟨n,hn⟩:=hlen;have hxe:=hr _ hx.2;rw [hn] at hxe
     by_cases hp:e.head? = some 43
     · cases e with
       | nil=>cases hp
       | cons x r=>
        obtain rfl:x=43:=Option.some.inj hp;refine ⟨true,n,?_⟩;rw [if_pos rfl];have:expT (43 :: r)=r:=by simp [expT]
        rw [this] at hxe;rw [hxe]; rfl
     · refine ⟨false,n,?_⟩
       have:expT e=e:=by rw [expT,if_neg hp]; rfl
       rw [this] at hxe;rw [if_neg (by decide),List.nil_append,← hxe]
theorem ShN.ne {N:List Nat} (h:ShN N):N≠[]:=by
 obtain ⟨B,t,rfl,h1,-⟩:=h
 intro e
 exact h1 (List.append_eq_nil_iff.1 e).1
theorem tw_app {α:Type} {p:α→Bool} {a b:List α} (h:∀ x ∈ a,p x=true) (hb:∀ x,b.head? = some x→p x=false):(a++b).takeWhile p=a∧(a++b).dropWhile p=b:=by
 induction a with
 | nil=>
  cases b with
  | nil=>exact ⟨rfl,rfl⟩
  | cons x b=>
   have:=hb x rfl;rw [List.nil_append,List.takeWhile_cons,List.dropWhile_cons,if_neg (by rw [this]; decide),if_neg (by rw [this]; decide)]; exact ⟨rfl,rfl⟩
 | cons x a ih=>
  have h1:=h x (List.mem_cons_self ..);obtain ⟨i1,i2⟩:=ih fun y hy=>h y (List.mem_cons_of_mem _ hy)
  rw [List.cons_append,List.takeWhile_cons,List.dropWhile_cons,if_pos h1,if_pos h1,i1,i2]; exact ⟨rfl,rfl⟩
def aff (e:El):Prop:=bdy e=false∧plE 69 e=false∧smi e=false
structure PdOk (at_ pad:Int) (pre suf:List Itm):Prop where
 lo:0≤at_
 hi:at_≤4
 no:at_=0→pad=0
 two:at_=2→pre≠[]
 four:at_=4→suf≠[]
theorem tksE_app (a b:List El):tksE (a++b)=tksE a++tksE b:=by rw [tksE,List.filter_append,List.map_append]; rfl
def t0 (k:Int × Bool):Tok:=(k.1,k.2,0)
def padT (b:Bool) (pad:Int):List Tok:=if b then [(42,false,0),(pad,decide (pad=39),0)] else []
def nT (N:List Nat):List Tok:=N.map fun c:Nat=>((c:Int),false,0)
def hfT (at_ pad:Int) (pre:List Itm) (N:List Nat) (suf:List Itm):List Tok:=
 padT (decide (at_=1)) pad++(pre.map tkI++(padT (decide (at_=2)) pad++(nT N++(padT (decide (at_=3)) pad++(suf.map tkI++padT (decide (at_=4)) pad)))))
def txT (p:Pt) (N N2:List Nat):List Tok:=hfT p.at_ p.pad p.pre N p.suf++(if p.neg then (59,false,0) :: hfT 0 0 p.npre N2 p.nsuf else [])
theorem isZ_0:isZ 0=true:=by decide
theorem smi_all {l:List El} (h:∀ e ∈ l,smi e=false) (r:List El) (hr:∀ e,r.head? = some e→smi e=true):qA4 (l++r)=l∧qBE (l++r)=r:=
 tw_app (p:=fun e=>!smi e) (fun x hx=>by show (!smi x)=true; rw [h x hx]; rfl) (fun x hx=>by show (!smi x)=false; rw [hr x hx]; rfl)
theorem smi_none {l:List El} (h:∀ e ∈ l,smi e=false):qA4 l=l∧qBE l=[]:=by
 have:=smi_all h [] (by simp)
 rwa [List.append_nil] at this
structure GdP (p:Pt) (N:List Nat):Prop where
 pre:p.pre.all mayI=true∧p.pre.length≤40
 suf:p.suf.all mayI=true∧p.suf.length≤40
 npre:p.npre.all mayI=true
 nsuf:p.nsuf.all mayI=true
 num:numZ N=(p.num,0)
 pad:isZ p.pad=true
 ok:PdOk p.at_ p.pad p.pre p.suf
 wid:p.width=if p.at_≠0 then p.pre.length+N.length+p.suf.length else 0
 one:p.neg=false→p.npre=(2,0) :: p.pre∧p.nsuf=p.suf
 two:p.neg=true→p.npre.length≤40∧p.nsuf.length≤40
 cnt:(txT p N [48]).length≤400
def pdc (l:List El):Nat:=l.countP (·.2)
theorem qGX (a b:List El):pdc (a++b)=pdc a+pdc b:=List.countP_append
theorem qC5 (e:El) (b:List El):pdc (e :: b)=(if e.2 then 1 else 0)+pdc b:=by
 rw [pdc,List.countP_cons,Nat.add_comm]; rfl
theorem pdc_none {l:List El} (h:∀ e ∈ l,e.2=false):pdc l=0:=List.countP_eq_zero.2 fun e he=>by rw [h e he]; decide
theorem tksE_cnt (l:List El):(tksE l).length+pdc l=l.length:=by
 induction l with
 | nil=>rfl
 | cons e l ih=>
  rw [qC5,tksE,List.filter_cons]
  cases he:e.2
  · simp only [Bool.not_false,if_true,List.map_cons,List.length_cons,Bool.false_eq_true,if_false]
    unfold tksE at ih; omega
  · simp only [Bool.not_true,Bool.false_eq_true,if_false,if_true,List.length_cons]
    unfold tksE at ih; omega
theorem elsL_cnt (ts:List Tok):elsB ts=none→ts.length=(elsL ts).length+pdc (elsL ts):=by
 refine qGT (P:=fun ts=>elsB ts=none→ts.length=(elsL ts).length+pdc (elsL ts)) (fun _=>rfl) ?_ ?_ ?_ ts
 · intro t l h ih hb
   rw [elsB_no h] at hb;have:=ih hb;rw [qGQ h,qC5,List.length_cons,List.length_cons,if_neg Bool.false_ne_true]; omega
 · intro t h hb; rw [qGS h] at hb; cases hb
 · intro t u l h ih hb
   rw [elsB_st h] at hb;have:=ih hb;rw [qGR h,qC5,List.length_cons,List.length_cons,List.length_cons,if_pos rfl]; omega
def GE (e:El):Prop:=isZ e.1.1=true∧(e.2=false→mayT e.1=true)
theorem elsL_GE (ts:List Tok):ts.all mayT=true→∀ e ∈ elsL ts,GE e:=by
 have hz:∀ t:Tok,mayT t=true→isZ t.1=true:=fun t ht=>by rw [mayT,Bool.and_eq_true] at ht; exact ht.1
 refine qGT (P:=fun ts=>ts.all mayT=true→∀ e ∈ elsL ts,GE e) (fun _ e he=>by cases he) ?_ ?_ ?_ ts
 · intro t l h ih ha e he
   rw [List.all_cons,Bool.and_eq_true] at ha;rw [qGQ h] at he
   rcases List.mem_cons.1 he with rfl | he
   · exact ⟨hz t ha.1,fun _=>ha.1⟩
   · exact ih ha.2 e he
 · intro t h ha e he; rw [elsL_end h] at he; cases he
 · intro t u l h ih ha e he
   rw [List.all_cons,List.all_cons,Bool.and_eq_true,Bool.and_eq_true] at ha;rw [qGR h] at he
   rcases List.mem_cons.1 he with rfl | he
   · exact ⟨hz u ha.2.1,fun h=>by cases h⟩
   · exact ih ha.2.2 e he
theorem itm_may {t:Tok} (h:mayT t=true) (_hb:badT t=false):mayI (itm t)=true:=by
 rw [mayT,Bool.and_eq_true] at h
 by_cases hs:t.2.1=false∧sgK t.1≠0
 · rw [itm_s hs.1 hs.2]
   have h1:=qFJ t.1;have h2:sgK t.1≠1:=by
    unfold sgK
    repeat' split
    all_goals decide
   exact qC3.2 (.inr ⟨by have:=hs.2; omega,h1.2,rfl⟩)
 · rw [itm,if_neg hs]
   exact qC3.2 (.inl ⟨rfl,h.1⟩)
theorem itms_may {l:List El} (hg:∀ e ∈ l,GE e) (h:(itms (tksE l)).2.1=0):(itms (tksE l)).1.all mayI=true∧(itms (tksE l)).1.length≤40∧(itms (tksE l)).1.length=(tksE l).length:=by
 cases hf:(tksE l).find? badT with
 | some t=>rw [itms_bad hf] at h; cases h
 | none=>
  by_cases hl:40 < (tksE l).length
  · rw [qHG hf hl] at h; cases h
  · rw [itms_ok hf hl]
    refine ⟨?_,by dsimp only; rw [List.length_map]; omega,by dsimp only; rw [List.length_map]⟩;refine List.all_eq_true.2 fun i hi=>?_
    obtain ⟨t,ht,rfl⟩:=List.mem_map.1 hi;have hb:=List.find?_eq_none.1 hf t ht;obtain ⟨e,he,rfl⟩:=List.mem_map.1 ht;obtain ⟨he,h2⟩:=List.mem_filter.1 he;exact itm_may ((hg e he).2 (by simpa using h2)) (by simpa using hb)
theorem padR_set (W:Nat→Int) (l:List El):∀ i a r x,a≠0→padR W i l a r=(x,0,0)→x=(a,r)∧pdc l=0:=by
 induction l with
 | nil=>intro i a r x _ h; rw [padR] at h; exact ⟨(Prod.mk.inj h).1.symm,rfl⟩
 | cons e l ih=>
  intro i a r x ha h;rw [padR] at h
  cases he:e.2
  · rw [he,if_neg (by decide)] at h
    rw [qC5,he,if_neg (by decide),Nat.zero_add];exact ih _ _ _ _ ha h
  · rw [he,if_pos rfl,if_pos (.inr ha)] at h
    have:=(Prod.mk.inj (Prod.mk.inj h).2).1
    cases this
theorem padR_get (W:Nat→Int) (l:List El):∀ i x,padR W i l 0 0=(x,0,0)→(x=(0,0)∧pdc l=0)∨∃ l1 e l2,l=l1++e :: l2∧e.2=true∧pdc l1=0∧pdc l2=0∧W (i+l1.length)≠0∧x=(W (i+l1.length),e.1.1):=by
 induction l with
 | nil=>intro i x h; rw [padR] at h; exact .inl ⟨(Prod.mk.inj h).1.symm,rfl⟩
 | cons e l ih=>
  intro i x h;rw [padR] at h
  cases he:e.2
  · rw [he,if_neg (by decide)] at h
    rcases ih _ _ h with ⟨h1,h2⟩ | ⟨l1,e',l2,rfl,h2,h3,h4,h5,h6⟩
    · exact .inl ⟨h1,by rw [qC5,he,if_neg (by decide),h2]⟩
    · refine .inr ⟨e :: l1,e',l2,rfl,h2,by rw [qC5,he,if_neg (by decide),h3],h4,?_⟩
      rw [List.length_cons,show i+(l1.length+1)=i+1+l1.length by omega];exact ⟨h5,h6⟩
  · rw [he,if_pos rfl] at h
    split at h
    · have:=(Prod.mk.inj (Prod.mk.inj h).2).1
      cases this
    · rename_i hw
      have hw1:W i≠0:=fun e=>hw (.inl e)
      obtain ⟨h1,h2⟩:=padR_set W l _ _ _ _ hw1 h;exact .inr ⟨[],e,l,rfl,he,rfl,h2,hw1,h1⟩
theorem qGY {first:Bool} {b:Int} {l:List El} {H:Hf} (hg:∀ e ∈ l,GE e) (h:halfZ first b l=(H,0,0)) :
 ∃ N,numZ N=(H.num,0)∧H.long=N.length∧(H.pre.all mayI=true∧H.pre.length≤40)∧(H.suf.all mayI=true∧H.suf.length≤40)∧PdOk H.at_ H.pad H.pre H.suf∧isZ H.pad=true∧(first=false→H.at_=0) ∧
  l.length+pdc l=H.pre.length+N.length+H.suf.length+(if H.at_=0 then 0 else 2):=by
 have hparts:=qBD l
 have hgp:∀ e ∈ hpre l,GE e:=fun e he=>hg e (qGV he)
 have hgs:∀ e ∈ hsuf l,GE e:=fun e he=>hg e (qGW he)
 unfold halfZ at h
 cases hn:hnum l with
 | nil=>rw [hn] at h; have:=(Prod.mk.inj (Prod.mk.inj h).2).1; cases this
 | cons e0 r0=>
  rw [hn] at h;dsimp only at h;rw [← hn] at h
  split at h
  · rename_i hp; exact absurd (Prod.mk.inj (Prod.mk.inj h).2).1 hp
  · rename_i hp
    split at h
    · rename_i hq; exact absurd (Prod.mk.inj (Prod.mk.inj h).2).1 hq
    · rename_i hq
      split at h
      · rename_i hm
        have:=(Prod.mk.inj (Prod.mk.inj h).2).1;exact absurd (by omega) hm
      · rename_i hm
        split at h
        · rename_i hs; exact absurd (Prod.mk.inj (Prod.mk.inj h).2).1 hs
        · rename_i hs
          have hp:=Decidable.not_not.1 hp;have hq:=Decidable.not_not.1 hq;have hm:=Decidable.not_not.1 hm;have hs:=Decidable.not_not.1 hs;obtain rfl:=(Prod.mk.inj h).1.symm;clear h;obtain ⟨a1,a2,a3⟩:=itms_may hgp hq;obtain ⟨b1,b2,b3⟩:=itms_may hgs hs;have hnl:pdc (hnum l)=0:=pdc_none fun e he=>(qE8 l e he).1
          have hlen:=congrArg List.length hparts;have hcnt:=congrArg pdc hparts;rw [List.length_append,List.length_append] at hlen;rw [qGX,qGX,hnl] at hcnt;have ha:=tksE_cnt (hpre l);have hb:=tksE_cnt (hsuf l);have hpz:padZ first l=((padZ first l).1,0,0):=by
           have h2:(padZ first l).2.2=0:=(padR_mem _ l 0 0 0).1 hp;exact Prod.ext rfl (Prod.ext hp h2)
          refine ⟨chE (hnum l),Prod.ext rfl hm,(List.length_map ..).symm,⟨a1,a2⟩,⟨b1,b2⟩,?_⟩;dsimp only;rw [a3,b3,show (chE (hnum l)).length=(hnum l).length from List.length_map ..];unfold padZ at hpz
          rcases padR_get _ l 0 _ hpz with ⟨h1,h2⟩ | ⟨l1,e,l2,hl,h2,h3,h4,h5,h6⟩
          · have h1':(padZ first l).1=(0,0):=h1
            rw [h1'];exact ⟨⟨by decide,by decide,fun _=>rfl,fun h=>absurd h (by decide),fun h=>absurd h (by decide)⟩,isZ_0,fun _=>rfl,by rw [if_pos rfl]; omega⟩
          · have h6':(padZ first l).1=_:=h6
            rw [h6'];rw [Nat.zero_add] at h5 h6' ⊢;have hpl:pdc l=1:=by rw [hl,qGX,qC5,h2,h3,h4]; rfl
            have hf:first=true:=by
             cases first
             · exact absurd (by unfold whr; rw [if_pos rfl]) h5
             · rfl
            have hN0:0 < (hnum l).length:=by rw [hn]; exact Nat.zero_lt_succ _
            have hll:l.length=l1.length+(l2.length+1):=by
             conv=>lhs; rw [hl]
             rw [List.length_append,List.length_cons]
            subst hf;have hW:whr true (hpre l).length ((hpre l).length+(hnum l).length) l.length l1.length=_:=rfl;unfold whr at h5 ⊢;rw [if_neg (by decide)] at h5 ⊢;dsimp only;refine ⟨⟨?_,?_,fun h0=>absurd h0 h5,?_,?_⟩,(hg e (by rw [hl]; simp)).1,(fun h=>by cases h),(by rw [if_neg h5]; omega)⟩
            · repeat' split
              all_goals decide
            · repeat' split
              all_goals decide
            · intro h2' e0
              have hz:(tksE (hpre l)).length=0:=by rw [← a3,e0]; rfl
              split at h2'
              · cases h2'
              · split at h2'
                · omega
                · split at h2'
                  · cases h2'
                  · split at h2'
                    · cases h2'
                    · cases h2'
            · intro h4' e0
              have hz:(tksE (hsuf l)).length=0:=by rw [← b3,e0]; rfl
              split at h4'
              · cases h4'
              · split at h4'
                · cases h4'
                · split at h4'
                  · cases h4'
                  · split at h4'
                    · rename_i g1 g2 g3 g4
                      have hl2:l2=[]:=List.eq_nil_of_length_eq_zero (by omega);have hs0:(hsuf l).length=0:=by omega
                      have hs0:=List.eq_nil_of_length_eq_zero hs0
                      rcases List.eq_nil_or_concat (hnum l) with hc | ⟨c,z,hc⟩
                      · rw [hc] at hN0; cases hN0
                      · rw [List.concat_eq_append] at hc
                        have e1:l1++[e]=(hpre l++c)++[z]:=by
                         rw [List.append_assoc,← hc];rw [hs0,List.append_nil] at hparts;rw [← hparts,← hl2]; exact hl.symm
                        have e2:=(List.append_inj' e1 rfl).2;have e3:e ∈ hnum l:=by
                         rw [hc];have:e=z:=by simpa using e2
                         rw [this]; simp
                        have:=(qE8 l e e3).1;rw [h2] at this; cases this
                    · cases h4'
theorem hfT_len (at_ pad:Int) (pre suf:List Itm) (N:List Nat) (h:PdOk at_ pad pre suf):(hfT at_ pad pre N suf).length=pre.length+N.length+suf.length+(if at_=0 then 0 else 2):=by
 have hk:at_=0∨at_=1∨at_=2∨at_=3∨at_=4:=by have:=h.lo; have:=h.hi; omega
 have hp:∀ b pad,(padT b pad).length=if b then 2 else 0:=fun b pad=>by cases b <;> rfl
 rw [hfT,nT]
 simp only [List.length_append,List.length_map,hp]
 rcases hk with rfl | rfl | rfl | rfl | rfl <;> simp <;> omega
theorem pd0 {pre suf:List Itm}:PdOk 0 0 pre suf:=⟨by decide,by decide,fun _=>rfl,fun h=>absurd h (by decide),fun h=>absurd h (by decide)⟩
theorem txT_len {p:Pt} (h:PdOk p.at_ p.pad p.pre p.suf) (N N2:List Nat):(txT p N N2).length=p.pre.length+N.length+p.suf.length+(if p.at_=0 then 0 else 2)+(if p.neg then 1+(p.npre.length+N2.length+p.nsuf.length) else 0):=by
 unfold txT
 rw [List.length_append,hfT_len _ _ _ _ _ h]
 cases p.neg
 · rfl
 · simp only [if_true,List.length_cons,hfT_len _ _ _ _ _ pd0]; omega
theorem mix_ok {p q:Pt} (h:p.mix=(q,0,0)):q=p∧(p.has 4 && p.has 5)=false:=by
 unfold Pt.mix at h
 split at h
 · have:=(Prod.mk.inj (Prod.mk.inj h).2).1; cases this
 · rename_i hm
   exact ⟨(Prod.mk.inj h).1.symm,Bool.eq_false_iff.2 hm⟩
theorem gd_of {l:List Nat} (hl:∀ b ∈ l,b < 256) {p:Pt} (h:compZ l=(p,0,0)):∃ N,GdP p N∧(txT p N [48]).length≤(toks l).1.length∧(p.has 4 && p.has 5)=false:=by
 obtain ⟨hmay,h400,-⟩:=qFG hl
 unfold compZ at h
 split at h
 · rename_i ht; exact absurd (Prod.mk.inj (Prod.mk.inj h).2).1 ht
 · generalize (toks l).1=ts at *
   cases hB:elsB ts with
   | some a=>rw [hB] at h; have:=(Prod.mk.inj (Prod.mk.inj h).2).1; cases this
   | none=>
    rw [hB] at h;dsimp only at h;have hg:=elsL_GE ts hmay;have hc:=elsL_cnt ts hB;generalize elsL ts=es at *;have hpart:es=qA4 es++qBE es:=List.takeWhile_append_dropWhile.symm;have hg1:∀ e ∈ qA4 es,GE e:=fun e he=>hg e (by rw [hpart]; exact List.mem_append_left _ he)
    have hg2:∀ e ∈ qBE es,GE e:=fun e he=>hg e (by rw [hpart]; exact List.mem_append_right _ he)
    have hlen:=congrArg List.length hpart;have hcnt:=congrArg pdc hpart;rw [List.length_append] at hlen;rw [qGX] at hcnt;have hm2:mayI (2,0)=true:=by decide
    unfold qC0 at h
    cases hs:qBE es with
    | nil=>
     rw [hs] at h hlen hcnt;dsimp only at h
     split at h
     · rename_i hq; exact absurd (Prod.mk.inj (Prod.mk.inj h).2).1 hq
     · rename_i hq
       have hq:=Decidable.not_not.1 hq;have hH:halfZ true 0 (qA4 es)=((halfZ true 0 (qA4 es)).1,0,0):=Prod.ext rfl (Prod.ext hq ((qE9 _ _ _).1 hq));obtain ⟨N,n1,n2,n3,n4,n5,n6,-,n8⟩:=qGY hg1 hH;generalize (halfZ true 0 (qA4 es)).1=A at *;obtain ⟨rfl,hmix⟩:=mix_ok h;have htl:(txT (one16 A) N [48]).length≤ts.length:=by
        rw [txT_len (p:=one16 A) n5]
        show A.pre.length+N.length+A.suf.length+(if A.at_=0 then 0 else 2)+0≤_
        have:([]:List El).length=0:=rfl;have:pdc []=0:=rfl;omega
       refine ⟨N,⟨n3,n4,?_,n4.1,n1,n6,n5,?_,fun _=>⟨rfl,rfl⟩,(fun h=>by cases h),Nat.le_trans htl h400⟩,htl,hmix⟩
       · show ((2,0) :: A.pre).all mayI=true
         rw [List.all_cons,hm2,n3.1]; rfl
       · show A.wid=_
         rw [Hf.wid,n2]; rfl
    | cons e r=>
     rw [hs] at h hlen hcnt hg2;dsimp only at h
     cases hs2:qBE r with
     | cons f r2=>rw [hs2] at h; have:=(Prod.mk.inj (Prod.mk.inj h).2).1; cases this
     | nil=>
      rw [hs2] at h;dsimp only at h
      split at h
      · rename_i hq; exact absurd (Prod.mk.inj (Prod.mk.inj h).2).1 hq
      · rename_i hq
        split at h
        · rename_i hq2; exact absurd (Prod.mk.inj (Prod.mk.inj h).2).1 hq2
        · rename_i hq2
          have hq:=Decidable.not_not.1 hq;have hq2:=Decidable.not_not.1 hq2;have hH:halfZ true 0 (qA4 es)=((halfZ true 0 (qA4 es)).1,0,0):=Prod.ext rfl (Prod.ext hq ((qE9 _ _ _).1 hq));have hH2:halfZ false (e.1.2.2+1) r=((halfZ false (e.1.2.2+1) r).1,0,0):=Prod.ext rfl (Prod.ext hq2 ((qE9 _ _ _).1 hq2));obtain ⟨N,n1,n2,n3,n4,n5,n6,-,n8⟩:=qGY hg1 hH;obtain ⟨M,m1,m2,m3,m4,m5,m6,m7,m8⟩:=qGY (fun x hx=>hg2 x (List.mem_cons_of_mem _ hx)) hH2;generalize (halfZ true 0 (qA4 es)).1=A at *;generalize (halfZ false (e.1.2.2+1) r).1=B at *;obtain ⟨rfl,hmix⟩:=mix_ok h;have hM:=List.length_pos_iff.2 (num_sh m1).ne;have htl:(txT (two16 A B) N [48]).length≤ts.length:=by
           rw [txT_len (p:=two16 A B) n5]
           show A.pre.length+N.length+A.suf.length+(if A.at_=0 then 0 else 2)+(1+(B.pre.length+1+B.suf.length))≤_
           rw [List.length_cons] at hlen;rw [qC5] at hcnt;rw [if_pos (m7 rfl)] at m8;omega
          refine ⟨N,⟨n3,n4,m3.1,m4.1,n1,n6,n5,?_,(fun h=>by cases h),fun _=>⟨m3.2,m4.2⟩,Nat.le_trans htl h400⟩,htl,hmix⟩
          show A.wid=_
          rw [Hf.wid,n2]; rfl
end Go.Proofs.Ytohfadegildnaaa
