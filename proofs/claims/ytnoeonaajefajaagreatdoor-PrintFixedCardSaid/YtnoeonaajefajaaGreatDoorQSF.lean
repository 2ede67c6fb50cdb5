import Derived.Test.YtnoeonaajefajaaGreatDoorQSA
set_option linter.all false
set_option maxRecDepth 100000
namespace Go.Proofs.YtnoeonaajefajaaGreatDoor
def z1 (t:Tok):Tok:=(t.1,t.2.1,0)
def z0 (e:El):El:=(z1 e.1,e.2)
theorem z1_er {ts us:List Tok} (h:ts.map er=us.map er):ts.map z1=us.map z1:=by
 have e:z1=(fun k:Int × Bool=>((k.1,k.2,0):Tok)) ∘ er:=rfl
 rw [e,← List.map_map,← List.map_map,h]
theorem elsL_z (ts:List Tok):elsL (ts.map z1)=(elsL ts).map z0:=by
 refine qEP (P:=fun ts=>elsL (ts.map z1)=(elsL ts).map z0) rfl ?_ ?_ ?_ ts
 · intro t l h ih
   rw [List.map_cons,qCJ (show stT (z1 t)=false from h),qCJ h,ih]; rfl
 · intro t h
   rw [List.map_cons,List.map_nil,qGG (show stT (z1 t)=true from h),qGG h]; rfl
 · intro t u l h ih
   rw [List.map_cons,List.map_cons,qCS (show stT (z1 t)=true from h),qCS h,ih]; rfl
theorem elsB_z (ts:List Tok):elsB (ts.map z1)=(elsB ts).map fun _=>0:=by
 refine qEP (P:=fun ts=>elsB (ts.map z1)=(elsB ts).map fun _=>0) rfl ?_ ?_ ?_ ts
 · intro t l h ih
   rw [List.map_cons,qDB (show stT (z1 t)=false from h),qDB h,ih]
 · intro t h
   rw [List.map_cons,List.map_nil,qE2 (show stT (z1 t)=true from h),qE2 h]; rfl
 · intro t u l h ih
   rw [List.map_cons,List.map_cons,qE1 (show stT (z1 t)=true from h),qE1 h,ih]
theorem els_app {ts:List Tok} (h:elsB ts=none) (us:List Tok):elsL (ts++us)=elsL ts++elsL us∧elsB (ts++us)=elsB us:=by
 revert h
 refine qEP (P:=fun ts=>elsB ts=none→elsL (ts++us)=elsL ts++elsL us∧elsB (ts++us)=elsB us) (fun _=>⟨rfl,rfl⟩) ?_ ?_ ?_ ts
 · intro t l h ih hb
   rw [qDB h] at hb;rw [List.cons_append,qCJ h,qCJ h,qDB h,(ih hb).1,(ih hb).2]; exact ⟨rfl,rfl⟩
 · intro t h hb
   rw [qE2 h] at hb; cases hb
 · intro t u l h ih hb
   rw [qE1 h] at hb;rw [List.cons_append,List.cons_append,qCS h,qCS h,qE1 h,(ih hb).1,(ih hb).2]; exact ⟨rfl,rfl⟩
theorem els_pl {ts:List Tok} (h:∀ t ∈ ts,stT t=false):elsL ts=ts.map (fun t=>(t,false))∧elsB ts=none:=by
 induction ts with
 | nil=>exact ⟨rfl,rfl⟩
 | cons t ts ih=>
  have h1:=h t (List.mem_cons_self ..);obtain ⟨i1,i2⟩:=ih fun u hu=>h u (List.mem_cons_of_mem _ hu)
  rw [qCJ h1,qDB h1,i1,i2]; exact ⟨rfl,rfl⟩
theorem els_pd {t u:Tok} (h:stT t=true) (us:List Tok):elsL (t :: u :: us)=((u.1,false,t.2.2),true) :: elsL us∧elsB (t :: u :: us)=elsB us:=⟨qCS h u us,qE1 h u us⟩
theorem qM1 {α:Type} (f:α→α) (p:α→Bool) (h:∀ x,p (f x)=p x) (l:List α):(l.map f).takeWhile p=(l.takeWhile p).map f∧(l.map f).dropWhile p=(l.dropWhile p).map f:=by
 induction l with
 | nil=>exact ⟨rfl,rfl⟩
 | cons x l ih=>
  rw [List.map_cons,List.takeWhile_cons,List.dropWhile_cons,List.takeWhile_cons,List.dropWhile_cons,h x]
  cases p x
  · exact ⟨rfl,rfl⟩
  · simp only [if_true]; rw [ih.1,ih.2]; exact ⟨rfl,rfl⟩
theorem bhd_z (l:List El):bhd (l.map z0)=(bhd l).map z0:=by
 unfold bhd
 rw [(qM1 z0 bdy (fun _=>rfl) l).2]
 cases l.dropWhile bdy with
 | nil=>rfl
 | cons e b=>
  rw [List.map_cons];dsimp only;rw [show plE 69 (z0 e)=plE 69 e from rfl]
  cases plE 69 e
  · rfl
  · simp only [if_true]
    cases b with
    | nil=>rfl
    | cons f c=>
     rw [List.map_cons];dsimp only;rw [show plE 43 (z0 f)=plE 43 f from rfl]
     cases plE 43 f
     · simp only [Bool.false_eq_true,if_false]
       rw [← List.map_cons];exact (qM1 z0 bdy (fun _=>rfl) (f :: c)).2
     · exact (qM1 z0 bdy (fun _=>rfl) c).2
theorem hpre_z (l:List El):hpre (l.map z0)=(hpre l).map z0:=(qM1 z0 (fun e=>!bdy e) (fun _=>rfl) l).1
theorem hrst_z (l:List El):hrst (l.map z0)=(hrst l).map z0:=(qM1 z0 (fun e=>!bdy e) (fun _=>rfl) l).2
theorem hsuf_z (l:List El):hsuf (l.map z0)=(hsuf l).map z0:=by rw [hsuf,hrst_z,bhd_z]; rfl
theorem hnum_z (l:List El):hnum (l.map z0)=(hnum l).map z0:=by
 rw [hnum,hsuf_z,hrst_z,List.length_map,List.length_map,← List.map_take]; rfl
theorem tksE_z (l:List El):tksE (l.map z0)=(tksE l).map z1:=by
 induction l with
 | nil=>rfl
 | cons e l ih=>
  unfold tksE at ih ⊢;rw [List.map_cons,List.filter_cons,List.filter_cons,show (!(z0 e).2) = !e.2 from rfl]
  cases e.2
  · simp only [Bool.not_false,if_true,List.map_cons,ih]; rfl
  · simp only [Bool.not_true,Bool.false_eq_true,if_false,ih]
theorem chE_z (l:List El):chE (l.map z0)=chE l:=by rw [chE,List.map_map]; rfl
theorem qJN (ts:List Tok):(itms (ts.map z1)).1=(itms ts).1∧(itms (ts.map z1)).2.1=(itms ts).2.1:=by
 have hf:(ts.map z1).find? badT=(ts.find? badT).map z1:=by
  induction ts with
  | nil=>rfl
  | cons t ts ih=>
   rw [List.map_cons,List.find?_cons,List.find?_cons,show badT (z1 t)=badT t from rfl]
   cases badT t
   · exact ih
   · rfl
 cases h:ts.find? badT with
 | some t=>rw [h] at hf; rw [qG4 h,qG4 hf]; exact ⟨rfl,rfl⟩
 | none=>
  rw [h] at hf
  by_cases hl:40 < ts.length
  · rw [qEI h hl,qEI hf (by rw [List.length_map]; exact hl)]; exact ⟨rfl,rfl⟩
  · rw [qGU h hl,qGU hf (by rw [List.length_map]; exact hl)]
    refine ⟨?_,rfl⟩;rw [List.map_map]; rfl
theorem padR_z (W:Nat→Int) (l:List El):∀ i a r,(padR W i (l.map z0) a r).1=(padR W i l a r).1∧(padR W i (l.map z0) a r).2.1=(padR W i l a r).2.1:=by
 induction l with
 | nil=>intro i a r; exact ⟨rfl,rfl⟩
 | cons e l ih=>
  intro i a r;rw [List.map_cons,padR,padR,show (z0 e).2=e.2 from rfl]
  cases e.2
  · exact ih _ _ _
  · simp only [if_true]
    split
    · exact ⟨rfl,rfl⟩
    · exact ih _ _ _
theorem padZ_z (first:Bool) (l:List El):(padZ first (l.map z0)).1=(padZ first l).1∧(padZ first (l.map z0)).2.1=(padZ first l).2.1:=by
 rw [padZ,hpre_z,hnum_z,List.length_map,List.length_map,List.length_map]
 exact padR_z _ l _ _ _
theorem halfZ_z (first:Bool) (b b':Int) (l:List El):(halfZ first b (l.map z0)).1=(halfZ first b' l).1∧(halfZ first b (l.map z0)).2.1=(halfZ first b' l).2.1:=by
 unfold halfZ
 rw [(padZ_z first l).1,(padZ_z first l).2,hnum_z,hpre_z,hsuf_z,tksE_z,tksE_z,(qJN (tksE (hpre l))).1,(qJN (tksE (hpre l))).2,(qJN (tksE (hsuf l))).1,(qJN (tksE (hsuf l))).2,chE_z,List.length_map]
 cases hnum l with
 | nil=>exact ⟨rfl,rfl⟩
 | cons e r=>
  rw [List.map_cons];dsimp only
  by_cases h1:(padZ first l).2.1≠0
  · rw [if_pos h1,if_pos h1]; exact ⟨rfl,(padZ_z first l).2⟩
  · rw [if_neg h1,if_neg h1]
    by_cases h2:(itms (tksE (hpre l))).2.1≠0
    · rw [if_pos h2,if_pos h2]; exact ⟨rfl,(qJN (tksE (hpre l))).2⟩
    · rw [if_neg h2,if_neg h2]
      by_cases h3:(numZ (chE (e :: r))).2≠0
      · rw [if_pos h3,if_pos h3]; exact ⟨rfl,rfl⟩
      · rw [if_neg h3,if_neg h3]
        by_cases h4:(itms (tksE (hsuf l))).2.1≠0
        · rw [if_pos h4,if_pos h4]; exact ⟨rfl,(qJN (tksE (hsuf l))).2⟩
        · rw [if_neg h4,if_neg h4]; exact ⟨rfl,rfl⟩
theorem qL0 {first:Bool} {b b':Int} {l l':List El} {H:Hf} (h:halfZ first b' l'=(H,0,0)) (e:l.map z0=l'.map z0):halfZ first b l=(H,0,0):=by
 have h1:=halfZ_z first b b l
 have h2:=halfZ_z first b b' l'
 rw [e] at h1
 have e1:(halfZ first b l).1=H:=by rw [← h1.1,h2.1,h]
 have e2:(halfZ first b l).2.1=0:=by rw [← h1.2,h2.2,h]
 have e3:=(qEQ first b l).1 e2
 exact Prod.ext e1 (Prod.ext e2 e3)
theorem sck_prt2 (ts:List Tok) {rest:List Nat} (hr:rest.head?≠some 39):∀ (row:List Int),row.all isZ=true→ts.all mayT=true→sck (nats (prt ts row)++rest) false=(row.map (fun r=>(r,true))++(ts.map er++(sck rest false).1),(sck rest false).2):=by
 induction ts with
 | nil=>
  intro row hz _;rw [qI4,sck_inQ hz hr]; rfl
 | cons t ts ih=>
  intro row hz hm;rw [List.all_cons,Bool.and_eq_true] at hm;obtain ⟨h1,h2⟩:=hm;simp only [mayT,Bool.and_eq_true,Bool.or_eq_true,Bool.not_eq_true',decide_eq_false_iff_not] at h1;obtain ⟨hc,hq⟩:=h1
  rcases ht:t.2.1 with _ | _
  · rw [ht] at hq
    have h39:t.1≠39:=by rcases hq with h | h; cases h; exact h
    have hN:t.1.toNat≠39:=fun h=>h39 ((isZ_39 hc).1 h)
    rw [prt_p ht,qAU,qLI,List.append_assoc,List.cons_append,sck_inQ hz (by simp [hN]),qDW hN,ih [] rfl h2,Int.toNat_of_nonneg (qAS.1 hc).1];simp [er,ht]
  · rw [prt_q ht,ih _ (by rw [List.all_append,hz]; simp [hc]) h2]
    simp [er,ht]
theorem sck_pl {N:List Nat} (h:∀ c ∈ N,c≠39) (rest:List Nat) (b:Bool):sck (N++rest) b=(N.map (fun c:Nat=>((c:Int),b))++(sck rest b).1,(sck rest b).2):=by
 induction N with
 | nil=>rfl
 | cons c N ih=>
  rw [List.cons_append,qDW (h c (List.mem_cons_self ..)),ih fun x hx=>h x (List.mem_cons_of_mem _ hx)]; rfl
theorem toks_sck {cs:List Nat} {ks:List (Int × Bool)} (h:allC cs=true) (hs:sck cs false=(ks,false)) (hl:ks.length≤400):∃ ts,toks (encs cs)=(ts,0,0)∧ts.map er=ks:=by
 obtain ⟨h1,h2⟩:=qK9 cs 0 (-1)
 rw [show decide (0≤(-1:Int))=false from rfl,hs] at h1 h2
 refine ⟨_,toks_right h (by simpa using h2) ?_,h1⟩
 have:=congrArg List.length h1
 rw [List.length_map] at this
 rw [this]; exact hl
theorem okB_bdC {c:Nat} (h:okB c=true):bdC (c:Int)=true∧c≠69∧c≠39∧c≠42∧c≠59∧c < 128:=by
 simp only [okB,h35,a64,dg,Bool.or_eq_true,beq_iff_eq,Bool.and_eq_true,decide_eq_true_eq] at h
 refine ⟨?_,by omega,by omega,by omega,by omega,by omega⟩
 rw [bdC,decide_eq_true_iff]; omega
def tlE (t:List Nat):Prop:=∃ (pl:Bool) (n:Nat),t=69 :: ((if pl then [43] else [])++List.replicate (n+1) 48)
def ShN (N:List Nat):Prop:=∃ B t,N=B++t∧B≠[]∧(∀ c ∈ B,okB c=true)∧(t=[]∨tlE t)
theorem numB_sh {body:List Nat} {sci:Bool} {me:Nat} {plus:Bool} {p:NF} (h:numB body sci me plus=(p,0)) (hexp:(sci=true∧1≤me∧me≤9)∨(sci=false∧me=0∧plus=false)):body≠[]∧∀ c ∈ body,okB c=true:=by
 obtain ⟨h1,h2,-⟩:=qGW h hexp
 obtain ⟨-,hne,-⟩:=qGA h2
 refine ⟨?_,List.all_eq_true.1 h1⟩
 rintro rfl
 exact hne rfl
theorem qER {N:List Nat} {p:NF} (h:numZ N=(p,0)):ShN N:=by
 unfold numZ at h
 cases ha:N.any (· == 69)
 · rw [ha,if_neg (by decide),qGB ha] at h
   obtain ⟨h1,h2⟩:=numB_sh h (.inr ⟨rfl,rfl,rfl⟩);exact ⟨N,[],by simp,h1,h2,.inl rfl⟩
 · rw [ha,if_pos rfl] at h
   split at h
   · rename_i h1; exact absurd (Prod.mk.inj h).2 h1
   · rename_i h1
     have h1:(expZ (dnA 69 N)).1=0:=Decidable.not_not.1 h1;obtain ⟨h2,h3⟩:=numB_sh h (.inl ⟨rfl,qIB h1⟩);have hsp:N=upA 69 N++69 :: dnA 69 N:=by
      have e:=List.takeWhile_append_dropWhile (p:=(· != 69)) (l:=N);have hd:N.dropWhile (· != 69)≠[]:=by
       intro e0;rw [e0,List.append_nil] at e;obtain ⟨x,hx,hx9⟩:=List.any_eq_true.1 ha;rw [← e] at hx;have:=tw_mem hx;rw [beq_iff_eq] at hx9;subst hx9
       cases this
      cases hdw:N.dropWhile (· != 69) with
      | nil=>exact absurd hdw hd
      | cons x r=>
       have hx:=qG9 N x (A:=(· != 69)) (by rw [hdw]; rfl);have hx:x=69:=by simpa using hx
       subst hx;rw [upA,dnA,hdw];rw [hdw] at e;exact e.symm
     refine ⟨_,_,hsp,h2,h3,.inr ?_⟩;generalize dnA 69 N=e at *;have hx:(expT e).isEmpty=false∧(expT e).all z48=true:=by
      unfold expZ at h1
      split at h1
      · exact absurd h1 (by decide)
      · rename_i g
        simp only [Bool.or_eq_true,not_or,Bool.not_eq_true,Bool.not_eq_false'] at g;exact ⟨g.1,by simpa using g.2⟩
     have hr:∀ l:List Nat,l.all z48=true→l=List.replicate l.length 48:=fun l hl=>List.eq_replicate_iff.2 ⟨rfl,fun x hx=>z48_iff.1 (List.all_eq_true.1 hl x hx)⟩
     have hlen:∃ n,(expT e).length=n+1:=⟨(expT e).length - 1,by
      have:(expT e)≠[]:=fun e0=>by rw [e0] at hx; cases hx.1
      have:=List.length_pos_iff.2 this;omega⟩
     obtain ⟨n,hn⟩:=hlen;have hxe:=hr _ hx.2;rw [hn] at hxe
     by_cases hp:e.head? = some 43
     · cases e with
       | nil=>cases hp
       | cons x r=>
        obtain rfl:x=43:=Option.some.inj hp;refine ⟨true,n,?_⟩;rw [if_pos rfl];have:expT (43 :: r)=r:=by simp [expT]
        rw [this] at hxe;rw [hxe]; rfl
     · refine ⟨false,n,?_⟩
       have:expT e=e:=by rw [expT,if_neg hp]; rfl
       rw [this] at hxe;rw [if_neg (by decide),List.nil_append,← hxe]
theorem ShN.ne {N:List Nat} (h:ShN N):N≠[]:=by
 obtain ⟨B,t,rfl,h1,-⟩:=h
 intro e
 exact h1 (List.append_eq_nil_iff.1 e).1
theorem ShN.mem {N:List Nat} (h:ShN N):∀ c ∈ N,c≠39∧c≠42∧c≠59∧c < 128:=by
 obtain ⟨B,t,rfl,-,h2,h3⟩:=h
 intro c hc
 rcases List.mem_append.1 hc with hc | hc
 · have:=okB_bdC (h2 c hc); exact ⟨this.2.2.1,this.2.2.2.1,this.2.2.2.2.1,this.2.2.2.2.2⟩
 · rcases h3 with rfl | ⟨pl,n,rfl⟩
   · cases hc
   · rcases List.mem_cons.1 hc with rfl | hc
     · decide
     · rcases List.mem_append.1 hc with hc | hc
       · cases pl
         · cases hc
         · rcases List.mem_cons.1 hc with rfl | hc
           · decide
           · cases hc
       · obtain rfl:=(List.mem_replicate.1 hc).2; decide
def sN (N:List Nat):List El:=N.map fun c:Nat=>(((c:Int),false,0),false)
theorem sN_body {B:List Nat} (h:∀ c ∈ B,okB c=true):∀ e ∈ sN B,bdy e=true:=by
 intro e he
 obtain ⟨c,hc,rfl⟩:=List.mem_map.1 he
 exact bdy_iff.2 ⟨rfl,rfl,(okB_bdC (h c hc)).1⟩
theorem qH9 {α:Type} {p:α→Bool} {a b:List α} (h:∀ x ∈ a,p x=true) (hb:∀ x,b.head? = some x→p x=false):(a++b).takeWhile p=a∧(a++b).dropWhile p=b:=by
 induction a with
 | nil=>
  cases b with
  | nil=>exact ⟨rfl,rfl⟩
  | cons x b=>
   have:=hb x rfl;rw [List.nil_append,List.takeWhile_cons,List.dropWhile_cons,if_neg (by rw [this]; decide),if_neg (by rw [this]; decide)]; exact ⟨rfl,rfl⟩
 | cons x a ih=>
  have h1:=h x (List.mem_cons_self ..);obtain ⟨i1,i2⟩:=ih fun y hy=>h y (List.mem_cons_of_mem _ hy)
  rw [List.cons_append,List.takeWhile_cons,List.dropWhile_cons,if_pos h1,if_pos h1,i1,i2]; exact ⟨rfl,rfl⟩
def aff (e:El):Prop:=bdy e=false∧plE 69 e=false∧smi e=false
theorem bhd_num {N:List Nat} (h:ShN N) {rest:List El} (hr:∀ e ∈ rest,aff e):bhd (sN N++rest)=rest:=by
 obtain ⟨B,t,rfl,-,hB,ht⟩:=h
 have hrh:∀ x,rest.head? = some x→bdy x=false:=fun x hx=>(hr x (List.mem_of_mem_head? hx)).1
 rcases ht with rfl | ⟨pl,n,rfl⟩
 · rw [List.append_nil]
   unfold bhd;rw [(qH9 (sN_body hB) hrh).2]
   cases rest with
   | nil=>rfl
   | cons e b=>
    dsimp only;rw [if_neg (by rw [(hr e (List.mem_cons_self ..)).2.1]; decide)]
 · have hz:∀ e ∈ sN (List.replicate (n+1) 48),bdy e=true:=sN_body fun c hc=>by obtain rfl:=(List.mem_replicate.1 hc).2; rfl
   have hd:=(qH9 hz hrh).2;have e1:∀ t,sN (B++69 :: t)++rest=sN B++((((69:Nat):Int),false,0),false) :: (sN t++rest):=fun t=>by simp [sN]
   rw [e1];unfold bhd;rw [(qH9 (p:=bdy) (b:=((((69:Nat):Int),false,0),false) :: _) (sN_body hB) (fun x hx=>by obtain rfl:=Option.some.inj hx; rfl)).2];dsimp only;rw [if_pos (by rfl)]
   cases pl
   · rw [if_neg (by decide),List.nil_append]
     have e2:sN (List.replicate (n+1) 48)++rest=((((48:Nat):Int),false,0),false) :: (sN (List.replicate n 48)++rest):=by rw [List.replicate_succ]; rfl
     rw [e2] at hd ⊢;dsimp only;rw [if_neg (by rw [show plE 43 ((((48:Nat):Int),false,0),false)=false from rfl]; decide)];exact hd
   · have e2:sN ((if true=true then [43] else [])++List.replicate (n+1) 48)++rest=((((43:Nat):Int),false,0),false) :: (sN (List.replicate (n+1) 48)++rest):=rfl
     rw [e2];dsimp only;rw [if_pos (by rfl)];exact hd
def sI (is:List Itm):List El:=is.map fun i=>(tkI i,false)
def sP (b:Bool) (pad:Int):List El:=if b then [((pad,false,0),true)] else []
theorem sI_aff {is:List Itm} (h:is.all mayI=true):∀ e ∈ sI is,aff e∧e.2=false:=by
 intro e he
 obtain ⟨i,hi,rfl⟩:=List.mem_map.1 he
 refine ⟨?_,rfl⟩
 rcases qI6 (List.all_eq_true.1 h i hi) with ⟨h1,h2⟩ | ⟨k,hk,rfl⟩
 · obtain ⟨i1,i2⟩:=i
   obtain rfl:i1=1:=h1;rw [qKB,aff,bdy,plE,smi,plE];dsimp only
   cases hn:nds i2
   · have h3:=(nds_39 hn).2.2
     have h4:i2≠69:=fun e=>by rw [e] at hn; revert hn; decide
     have h5:bdC i2=false:=by rw [bdC_mrk,h3]; rfl
     have h6:i2≠59:=fun e=>by rw [e] at h3; revert h3; decide
     simp [h4,h5,h6]
   · simp
 · rw [qHI]
   have:k=0∨k=1∨k=2∨k=3∨k=4:=by omega
   rcases this with rfl | rfl | rfl | rfl | rfl <;> exact ⟨by decide,by decide,by decide⟩
theorem sP_aff (b:Bool) (pad:Int):∀ e ∈ sP b pad,aff e:=by
 intro e he
 cases b
 · cases he
 · rcases List.mem_cons.1 he with rfl | he
   · exact ⟨rfl,rfl,rfl⟩
   · cases he
theorem sP_len (b:Bool) (pad:Int):(sP b pad).length=if b then 1 else 0:=by cases b <;> rfl
theorem qDK (is:List Itm):(sI is).length=is.length:=List.length_map ..
theorem qGL (N:List Nat):(sN N).length=N.length:=List.length_map ..
def hPre (at_ pad:Int) (pre:List Itm):List El:=sP (decide (at_=1)) pad++(sI pre++sP (decide (at_=2)) pad)
def hSuf (at_ pad:Int) (suf:List Itm):List El:=sP (decide (at_=3)) pad++(sI suf++sP (decide (at_=4)) pad)
def hfE (at_ pad:Int) (pre:List Itm) (N:List Nat) (suf:List Itm):List El:=hPre at_ pad pre++(sN N++hSuf at_ pad suf)
theorem hPre_aff {at_ pad:Int} {pre:List Itm} (h:pre.all mayI=true):∀ e ∈ hPre at_ pad pre,aff e:=by
 intro e he
 rcases List.mem_append.1 he with he | he
 · exact sP_aff _ _ e he
 · rcases List.mem_append.1 he with he | he
   · exact (sI_aff h e he).1
   · exact sP_aff _ _ e he
theorem hSuf_aff {at_ pad:Int} {suf:List Itm} (h:suf.all mayI=true):∀ e ∈ hSuf at_ pad suf,aff e:=by
 intro e he
 rcases List.mem_append.1 he with he | he
 · exact sP_aff _ _ e he
 · rcases List.mem_append.1 he with he | he
   · exact (sI_aff h e he).1
   · exact sP_aff _ _ e he
theorem half_cut {N:List Nat} (h:ShN N) {a b:List El} (ha:∀ e ∈ a,aff e) (hb:∀ e ∈ b,aff e):hpre (a++(sN N++b))=a∧hnum (a++(sN N++b))=sN N∧hsuf (a++(sN N++b))=b:=by
 have hne:∃ c N',N=c :: N'∧okB c=true:=by
  obtain ⟨B,t,rfl,h1,h2,-⟩:=h
  cases B with
  | nil=>exact absurd rfl h1
  | cons c B=>exact ⟨c,B++t,rfl,h2 c (List.mem_cons_self ..)⟩
 obtain ⟨c,N',e,hc⟩:=hne
 have hh:∀ x,(sN N++b).head? = some x→(fun e=>!bdy e) x=false:=by
  intro x hx;rw [e] at hx;obtain rfl:=Option.some.inj hx
  show (!bdy _)=false
  rw [bdy_iff.2 ⟨rfl,rfl,(okB_bdC hc).1⟩]; rfl
 obtain ⟨h1,h2⟩:=qH9 (p:=fun e=>!bdy e) (a:=a) (b:=sN N++b) (fun x hx=>by show (!bdy x)=true; rw [(ha x hx).1]; rfl) hh
 have h3:hsuf (a++(sN N++b))=b:=by rw [hsuf,hrst,h2,bhd_num h hb]
 refine ⟨h1,?_,h3⟩
 rw [hnum,h3,hrst,h2,List.length_append,Nat.add_sub_cancel,List.take_left']
 rfl
theorem qAW (W:Nat→Int) {l:List El} (h:∀ e ∈ l,e.2=false) (r:List El):∀ i a x,padR W i (l++r) a x=padR W (i+l.length) r a x:=by
 induction l with
 | nil=>intro i a x; rfl
 | cons e l ih=>
  intro i a x;rw [List.cons_append,padR,if_neg (by rw [h e (List.mem_cons_self ..)]; decide),ih (fun y hy=>h y (List.mem_cons_of_mem _ hy)),List.length_cons]
  congr 1; omega
theorem qHO (W:Nat→Int) {e:El} (he:e.2=true) {i:Nat} (hW:W i≠0) (r:List El) (x:Int):padR W i (e :: r) 0 x=padR W (i+1) r (W i) e.1.1:=by
 rw [padR,if_pos he,if_neg (by simp [hW])]
theorem sN_np (N:List Nat):∀ e ∈ sN N,e.2=false:=by
 intro e he
 obtain ⟨c,-,rfl⟩:=List.mem_map.1 he
 rfl
theorem qJ1 (is:List Itm):∀ e ∈ sI is,e.2=false:=by
 intro e he
 obtain ⟨c,-,rfl⟩:=List.mem_map.1 he
 rfl
structure PdOk (at_ pad:Int) (pre suf:List Itm):Prop where
 lo:0≤at_
 hi:at_≤4
 no:at_=0→pad=0
 two:at_=2→pre≠[]
 four:at_=4→suf≠[]
theorem padR_half {at_ pad:Int} {pre suf:List Itm} (h:PdOk at_ pad pre suf) {N:List Nat} (_hN:N≠[]) (W:Nat→Int)
 (hW:∀ i,i < (hfE at_ pad pre N suf).length→at_≠0→(at_=1→i=0)→(at_=2→i=pre.length)→(at_=3→i=pre.length+N.length)→(at_=4→i=pre.length+N.length+suf.length)→W i=at_) (rest:List El) :
 padR W 0 (hfE at_ pad pre N suf++rest) 0 0=padR W (hfE at_ pad pre N suf).length rest at_ pad:=by
 have hk:at_=0∨at_=1∨at_=2∨at_=3∨at_=4:=by have:=h.lo; have:=h.hi; omega
 have hln:(hfE at_ pad pre N suf).length=pre.length+N.length+suf.length+if at_=0 then 0 else 1:=by
  rw [hfE,hPre,hSuf];simp only [List.length_append,sP_len,qDK,qGL]
  rcases hk with rfl | rfl | rfl | rfl | rfl <;> simp <;> omega
 rw [hln] at hW ⊢
 unfold hfE hPre hSuf
 rcases hk with rfl | rfl | rfl | rfl | rfl
 · obtain rfl:=h.no rfl
   show padR W 0 (([]++(sI pre++[]))++(sN N++([]++(sI suf++[])))++rest) 0 0=_
   rw [List.nil_append,List.nil_append,List.append_nil,List.append_nil,List.append_assoc,List.append_assoc,qAW W (qJ1 pre),qAW W (sN_np N),qAW W (qJ1 suf),qDK,qDK,qGL]
   congr 1; rw [if_pos rfl]; omega
 · show padR W 0 (([((pad,false,0),true)]++(sI pre++[]))++(sN N++([]++(sI suf++[])))++rest) 0 0=_
   have hw:=hW 0 (by rw [if_neg (by decide)]; omega) (by decide) (fun _=>rfl) (by omega) (by omega) (by omega);rw [List.nil_append,List.append_nil,List.append_nil,List.append_assoc,List.append_assoc,List.append_assoc,List.singleton_append,qHO W rfl (by rw [hw]; decide),qAW W (qJ1 pre),qAW W (sN_np N),qAW W (qJ1 suf),qDK,qDK,qGL,hw]
   congr 1; rw [if_neg (by decide)]; omega
 · show padR W 0 (([]++(sI pre++[((pad,false,0),true)]))++(sN N++([]++(sI suf++[])))++rest) 0 0=_
   have hw:=hW pre.length (by rw [if_neg (by decide)]; omega) (by decide) (by omega) (fun _=>rfl) (by omega) (by omega);rw [List.nil_append,List.nil_append,List.append_nil,List.append_assoc,List.append_assoc,List.append_assoc,qAW W (qJ1 pre),List.singleton_append,qDK,Nat.zero_add,qHO W rfl (by rw [hw]; decide),qAW W (sN_np N),qAW W (qJ1 suf),qDK,qGL,hw]
   congr 1; rw [if_neg (by decide)]; omega
 · show padR W 0 (([]++(sI pre++[]))++(sN N++([((pad,false,0),true)]++(sI suf++[])))++rest) 0 0=_
   have hw:=hW (pre.length+N.length) (by rw [if_neg (by decide)]; omega) (by decide) (by omega) (by omega) (fun _=>rfl) (by omega);rw [List.nil_append,List.append_nil,List.append_nil,List.append_assoc,List.append_assoc,List.append_assoc,qAW W (qJ1 pre),qAW W (sN_np N),List.singleton_append,qDK,qGL,Nat.zero_add,qHO W rfl (by rw [hw]; decide),qAW W (qJ1 suf),qDK,hw]
   congr 1; rw [if_neg (by decide)]; omega
 · show padR W 0 (([]++(sI pre++[]))++(sN N++([]++(sI suf++[((pad,false,0),true)])))++rest) 0 0=_
   have hw:=hW (pre.length+N.length+suf.length) (by rw [if_neg (by decide)]; omega) (by decide) (by omega) (by omega) (by omega) (fun _=>rfl);rw [List.nil_append,List.nil_append,List.append_nil,List.append_assoc,List.append_assoc,List.append_assoc,qAW W (qJ1 pre),qAW W (sN_np N),qAW W (qJ1 suf),List.singleton_append,qDK,qDK,qGL,Nat.zero_add,qHO W rfl (by rw [hw]; decide),hw]
   congr 1
theorem qGM (a b:List El):tksE (a++b)=tksE a++tksE b:=by rw [tksE,List.filter_append,List.map_append]; rfl
theorem tksE_sI (is:List Itm):tksE (sI is)=is.map tkI:=by
 induction is with
 | nil=>rfl
 | cons i is ih=>
  show tksE ((tkI i,false) :: sI is)=_
  rw [tksE,List.filter_cons,if_pos (by rfl),List.map_cons,List.map_cons];exact congrArg (tkI i :: ·) ih
theorem qL1 (b:Bool) (pad:Int):tksE (sP b pad)=[]:=by cases b <;> rfl
theorem qM2 {is:List Itm} (h:is.all mayI=true) (hl:is.length≤40):itms (is.map tkI)=(is,0,0):=itms_back h hl (by rw [qG5 h])
theorem chE_sN (N:List Nat):chE (sN N)=N:=by
 rw [chE,sN,List.map_map]
 induction N with
 | nil=>rfl
 | cons c N ih=>rw [List.map_cons,ih]; rfl
theorem qM3 {first:Bool} {b:Int} {at_ pad:Int} {pre suf:List Itm} {N:List Nat} {n:NF} (h:PdOk at_ pad pre suf) (hf:at_≠0→first=true) (hp:pre.all mayI=true) (hp4:pre.length≤40) (hs:suf.all mayI=true)
 (hs4:suf.length≤40) (hN:numZ N=(n,0)):halfZ first b (hfE at_ pad pre N suf)=(⟨pre,suf,n,at_,pad,N.length⟩,0,0):=by
 have hsh:=qER hN
 obtain ⟨c1,c2,c3⟩:=half_cut hsh (hPre_aff (at_:=at_) (pad:=pad) hp) (hSuf_aff (at_:=at_) (pad:=pad) hs)
 have hk:at_=0∨at_=1∨at_=2∨at_=3∨at_=4:=by have:=h.lo; have:=h.hi; omega
 have hN0:=List.length_pos_iff.2 hsh.ne
 have hlp:(hPre at_ pad pre).length=pre.length+if at_=1∨at_=2 then 1 else 0:=by
  rw [hPre]; simp only [List.length_append,sP_len,qDK]
  rcases hk with rfl | rfl | rfl | rfl | rfl <;> simp <;> omega
 have hls:(hSuf at_ pad suf).length=suf.length+if at_=3∨at_=4 then 1 else 0:=by
  rw [hSuf]; simp only [List.length_append,sP_len,qDK]
  rcases hk with rfl | rfl | rfl | rfl | rfl <;> simp <;> omega
 have hln:(hfE at_ pad pre N suf).length=(hPre at_ pad pre).length+(N.length+(hSuf at_ pad suf).length):=by
  rw [hfE,List.length_append,List.length_append,qGL]
 have hpd:padZ first (hfE at_ pad pre N suf)=((at_,pad),0,0):=by
  rw [padZ];have e:=padR_half h hsh.ne (whr first (hpre (hfE at_ pad pre N suf)).length ((hpre (hfE at_ pad pre N suf)).length+(hnum (hfE at_ pad pre N suf)).length) (hfE at_ pad pre N suf).length) ?_ []
  · rw [List.append_nil] at e
    rw [e]; rfl
  · intro i hi ha h1 h2 h3 h4
    have h2':=h.two;have h4':=h.four;unfold hfE at hi hln ⊢;rw [c1,c2,hln,qGL,whr,if_neg (by rw [hf ha]; decide),hlp,hls]
    rcases hk with rfl | rfl | rfl | rfl | rfl
    · exact absurd rfl ha
    · rw [if_pos (h1 rfl)]
    · have hq:=List.length_pos_iff.2 (h2' rfl)
      have:=h2 rfl;rw [if_neg (by omega),if_pos (by rw [if_pos (by decide)]; omega)]
    · have:=h3 rfl
      rw [if_neg (by omega),if_neg (by rw [if_neg (by decide)]; omega),if_pos (by rw [if_neg (by decide)]; omega)]
    · have hq:=List.length_pos_iff.2 (h4' rfl)
      have:=h4 rfl;rw [if_neg (by omega),if_neg (by rw [if_neg (by decide)]; omega),if_neg (by rw [if_neg (by decide)]; omega),if_pos (by rw [if_neg (by decide),if_pos (by decide)]; omega)]
 unfold halfZ
 rw [hpd]
 unfold hfE
 rw [c1,c2,c3]
 have t1:tksE (hPre at_ pad pre)=pre.map tkI:=by rw [hPre,qGM,qGM,qL1,qL1,tksE_sI,List.append_nil,List.nil_append]
 have t2:tksE (hSuf at_ pad suf)=suf.map tkI:=by rw [hSuf,qGM,qGM,qL1,qL1,tksE_sI,List.append_nil,List.nil_append]
 rw [t1,t2,chE_sN,qM2 hp hp4,qM2 hs hs4,hN,qGL]
 cases N with
 | nil=>exact absurd rfl hsh.ne
 | cons c N=>rfl
def padC (b:Bool) (pad:Int):List Nat:=if b then 42 :: (if pad=39 then [39,39] else [pad.toNat]) else []
def itC (is:List Itm):List Nat:=nats (prt (tksI is) [])
def hfC (at_ pad:Int) (pre:List Itm) (N:List Nat) (suf:List Itm):List Nat:=
 padC (decide (at_=1)) pad++(itC pre++(padC (decide (at_=2)) pad++(N++(padC (decide (at_=3)) pad++(itC suf++padC (decide (at_=4)) pad)))))
def txC (p:Pt) (N N2:List Nat):List Nat:=hfC p.at_ p.pad p.pre N p.suf++(if p.neg then 59 :: hfC 0 0 p.npre N2 p.nsuf else [])
def t0 (k:Int × Bool):Tok:=(k.1,k.2,0)
def padT (b:Bool) (pad:Int):List Tok:=if b then [(42,false,0),(pad,decide (pad=39),0)] else []
def nT (N:List Nat):List Tok:=N.map fun c:Nat=>((c:Int),false,0)
def hfT (at_ pad:Int) (pre:List Itm) (N:List Nat) (suf:List Itm):List Tok:=
 padT (decide (at_=1)) pad++(pre.map tkI++(padT (decide (at_=2)) pad++(nT N++(padT (decide (at_=3)) pad++(suf.map tkI++padT (decide (at_=4)) pad)))))
def txT (p:Pt) (N N2:List Nat):List Tok:=hfT p.at_ p.pad p.pre N p.suf++(if p.neg then (59,false,0) :: hfT 0 0 p.npre N2 p.nsuf else [])
theorem qL2 (b:Bool) {pad:Int} (hz:isZ pad=true) (rest:List Nat):sck (padC b pad++rest) false=((padT b pad).map er++(sck rest false).1,(sck rest false).2):=by
 cases b
 · rfl
 · by_cases h:pad=39
   · subst h
     show sck (42 :: 39 :: 39 :: rest) false=_
     rw [qDW (by decide),qKA]; rfl
   · have e:padC true pad=[42,pad.toNat]:=by rw [padC,if_pos rfl,if_neg h]
     rw [e]
     show sck (42 :: pad.toNat :: rest) false=_
     rw [qDW (by decide),qDW (fun e=>h ((isZ_39 hz).1 e)),Int.toNat_of_nonneg (qAS.1 hz).1];rw [padT,if_pos rfl,decide_eq_false h]; rfl
theorem sck_it {is:List Itm} (h:is.all mayI=true) {rest:List Nat} (hr:rest.head?≠some 39):sck (itC is++rest) false=((is.map tkI).map er++(sck rest false).1,(sck rest false).2):=by
 have:=sck_prt2 (tksI is) hr [] rfl (qG6 is)
 rw [itC,this,qG5 h]; rfl
theorem sck_n {N:List Nat} (h:ShN N) (rest:List Nat):sck (N++rest) false=((nT N).map er++(sck rest false).1,(sck rest false).2):=by
 rw [sck_pl (fun c hc=>(h.mem c hc).1),nT,List.map_map]; rfl
theorem ShN.head {N:List Nat} (h:ShN N) (rest:List Nat):(N++rest).head?≠some 39:=by
 have h1:=h.mem
 have h2:=h.ne
 cases N with
 | nil=>exact absurd rfl h2
 | cons c N=>exact fun e=>(h1 c (List.mem_cons_self ..)).1 (Option.some.inj e)
theorem qM4 (b:Bool) (pad:Int) {rest:List Nat} (hr:rest.head?≠some 39):(padC b pad++rest).head?≠some 39:=by
 cases b
 · exact hr
 · show (some 42:Option Nat)≠some 39; decide
theorem qL3 {at_ pad:Int} {pre suf:List Itm} {N:List Nat} (hz:isZ pad=true) (hp:pre.all mayI=true) (hs:suf.all mayI=true) (hN:ShN N) {rest:List Nat} (hr:rest.head?≠some 39) :
 sck (hfC at_ pad pre N suf++rest) false=((hfT at_ pad pre N suf).map er++(sck rest false).1,(sck rest false).2):=by
 unfold hfC hfT
 simp only [List.append_assoc,List.map_append]
 rw [qL2 _ hz,sck_it hp (qM4 _ _ (hN.head _)),qL2 _ hz,sck_n hN,qL2 _ hz,sck_it hs (qM4 _ _ hr),qL2 _ hz]
theorem isZ_0:isZ 0=true:=by decide
theorem sck_text {p:Pt} {N N2:List Nat} (hz:isZ p.pad=true) (hp:p.pre.all mayI=true) (hs:p.suf.all mayI=true) (hnp:p.npre.all mayI=true) (hns:p.nsuf.all mayI=true) (hN:ShN N) (h2:ShN N2) :
 sck (txC p N N2) false=((txT p N N2).map er,false):=by
 unfold txC txT
 cases p.neg
 · have:=qL3 (at_:=p.at_) hz hp hs hN (rest:=[]) (by simp)
   simp only [Bool.false_eq_true,if_false];rw [this,sck_nil,List.append_nil,List.append_nil]
 · have h3:=qL3 (at_:=0) (pad:=0) isZ_0 hnp hns h2 (rest:=[]) (by simp)
   rw [List.append_nil,sck_nil] at h3;simp only [if_true];rw [qL3 (at_:=p.at_) hz hp hs hN (by show (some 59:Option Nat)≠some 39; decide),qDW (by decide),h3];simp [er]
theorem stT_tk {i:Itm} (h:mayI i=true):stT (tkI i)=false:=by
 obtain ⟨h1,h2,-⟩:=qHJ h
 rw [badT] at h2
 rw [stT]
 cases hq:(tkI i).2.1
 · rw [hq,Bool.not_false,Bool.true_and] at h2
   rw [Bool.not_false,Bool.true_and,decide_eq_false_iff_not];intro e;rw [e] at h2
   revert h2; decide
 · rfl
theorem z1_tk (i:Itm):z1 (tkI i)=tkI i:=by unfold tkI; split <;> rfl
theorem qES (b:Bool) (pad:Int) (us:List Tok):elsL (padT b pad++us)=sP b pad++elsL us∧elsB (padT b pad++us)=elsB us:=by
 cases b
 · exact ⟨rfl,rfl⟩
 · exact els_pd rfl us
theorem els_seg {ts:List Tok} (h:∀ t ∈ ts,stT t=false) (us:List Tok):elsL (ts++us)=ts.map (fun t=>(t,false))++elsL us∧elsB (ts++us)=elsB us:=by
 obtain ⟨h1,h2⟩:=els_pl h
 have:=els_app h2 us
 rw [h1] at this; exact this
theorem els_it {is:List Itm} (h:is.all mayI=true) (us:List Tok):elsL (is.map tkI++us)=sI is++elsL us∧elsB (is.map tkI++us)=elsB us:=by
 have:=els_seg (ts:=is.map tkI) (fun t ht=>by obtain ⟨i,hi,rfl⟩:=List.mem_map.1 ht; exact stT_tk (List.all_eq_true.1 h i hi)) us
 rw [List.map_map] at this; exact this
theorem els_n {N:List Nat} (h:∀ c ∈ N,c≠42) (us:List Tok):elsL (nT N++us)=sN N++elsL us∧elsB (nT N++us)=elsB us:=by
 have:=els_seg (ts:=nT N) (fun t ht=>by
  obtain ⟨c,hc,rfl⟩:=List.mem_map.1 ht;have:=h c hc;rw [stT];simp only [Bool.not_false,Bool.true_and,decide_eq_false_iff_not];omega) us
 rw [nT,List.map_map] at this; exact this
theorem qL4 {at_ pad:Int} {pre suf:List Itm} {N:List Nat} (hp:pre.all mayI=true) (hs:suf.all mayI=true) (hN:∀ c ∈ N,c≠42) (us:List Tok) :
 elsL (hfT at_ pad pre N suf++us)=hfE at_ pad pre N suf++elsL us∧elsB (hfT at_ pad pre N suf++us)=elsB us:=by
 unfold hfT hfE hPre hSuf
 simp only [List.append_assoc]
 rw [(qES _ _ _).1,(qES _ _ _).2,(els_it hp _).1,(els_it hp _).2,(qES _ _ _).1,(qES _ _ _).2,(els_n hN _).1,(els_n hN _).2,(qES _ _ _).1,(qES _ _ _).2,(els_it hs _).1,(els_it hs _).2,(qES _ _ _).1,(qES _ _ _).2]
 exact ⟨rfl,rfl⟩
def txE (p:Pt) (N N2:List Nat):List El:=hfE p.at_ p.pad p.pre N p.suf++(if p.neg then ((59,false,0),false) :: hfE 0 0 p.npre N2 p.nsuf else [])
theorem els_text {p:Pt} {N N2:List Nat} (hp:p.pre.all mayI=true) (hs:p.suf.all mayI=true) (hnp:p.npre.all mayI=true) (hns:p.nsuf.all mayI=true) (hN:ShN N) (h2:ShN N2):elsL (txT p N N2)=txE p N N2∧elsB (txT p N N2)=none:=by
 have m1:=fun c hc=>(hN.mem c hc).2.1
 have m2:=fun c hc=>(h2.mem c hc).2.1
 unfold txT txE
 cases p.neg
 · have:=qL4 (at_:=p.at_) (pad:=p.pad) hp hs m1 []
   simp only [Bool.false_eq_true,if_false];exact this
 · have h3:=qL4 (at_:=0) (pad:=0) hnp hns m2 []
   rw [List.append_nil] at h3;have h4:=qL4 (at_:=p.at_) (pad:=p.pad) hp hs m1 ((59,false,0) :: hfT 0 0 p.npre N2 p.nsuf);simp only [if_true];rw [h4.1,h4.2,qCJ (show stT (59,false,0)=false from rfl),qDB (show stT (59,false,0)=false from rfl),h3.1,h3.2];refine ⟨?_,rfl⟩;rw [show elsL []=[] from rfl,List.append_nil]
theorem hfE_smi {at_ pad:Int} {pre suf:List Itm} {N:List Nat} (hp:pre.all mayI=true) (hs:suf.all mayI=true) (hN:ShN N):∀ e ∈ hfE at_ pad pre N suf,smi e=false:=by
 intro e he
 rcases List.mem_append.1 he with he | he
 · exact (hPre_aff hp e he).2.2
 · rcases List.mem_append.1 he with he | he
   · obtain ⟨c,hc,rfl⟩:=List.mem_map.1 he
     have:=(hN.mem c hc).2.2.1;rw [smi,plE];simp only [Bool.not_false,Bool.true_and,decide_eq_false_iff_not];omega
   · exact (hSuf_aff hs e he).2.2
theorem smi_all {l:List El} (h:∀ e ∈ l,smi e=false) (r:List El) (hr:∀ e,r.head? = some e→smi e=true):qA7 (l++r)=l∧qAY (l++r)=r:=
 qH9 (p:=fun e=>!smi e) (fun x hx=>by show (!smi x)=true; rw [h x hx]; rfl) (fun x hx=>by show (!smi x)=false; rw [hr x hx]; rfl)
theorem qHP {l:List El} (h:∀ e ∈ l,smi e=false):qA7 l=l∧qAY l=[]:=by
 have:=smi_all h [] (by simp)
 rwa [List.append_nil] at this
theorem smi_z {l l':List El} (h:l.map z0=l'.map z0) (h':∀ e ∈ l',smi e=false):∀ e ∈ l,smi e=false:=by
 intro e he
 have:z0 e ∈ l'.map z0:=by rw [← h]; exact List.mem_map_of_mem he
 obtain ⟨f,hf,e1⟩:=List.mem_map.1 this
 have h1:smi (z0 f)=smi f:=rfl
 have h2:smi (z0 e)=smi e:=rfl
 rw [← h2,← e1,h1,h' f hf]
theorem compE_two {l r l' r':List El} {e:El} {A B:Hf} {b b':Int} (hl:l.map z0=l'.map z0) (hr:r.map z0=r'.map z0) (h1:∀ e ∈ l',smi e=false) (h2:∀ e ∈ r',smi e=false) (he:smi e=true) (hA:halfZ true b l'=(A,0,0)) (hB:halfZ false b' r'=(B,0,0)) :
 qC9 (l++e :: r)=(qGH A B).mix:=by
 have e1:=smi_all (smi_z hl h1) (e :: r) (fun x hx=>by obtain rfl:=Option.some.inj hx; exact he)
 have e2:=qHP (smi_z hr h2)
 unfold qC9
 rw [e1.1,e1.2]
 dsimp only
 rw [e2.2]
 dsimp only
 rw [qL0 (b:=0) hA hl,qL0 (b:=e.1.2.2+1) hB hr]
 rw [if_neg (fun h=>h rfl),if_neg (fun h=>h rfl)]
theorem compE_one {l l':List El} {A:Hf} {b:Int} (hl:l.map z0=l'.map z0) (h1:∀ e ∈ l',smi e=false) (hA:halfZ true b l'=(A,0,0)):qC9 l=(qF6 A).mix:=by
 have e1:=qHP (smi_z hl h1)
 unfold qC9
 rw [e1.1,e1.2]
 dsimp only
 rw [qL0 (b:=0) hA hl]
 rw [if_neg (fun h=>h rfl)]
structure GdP (p:Pt) (N:List Nat):Prop where
 pre:p.pre.all mayI=true∧p.pre.length≤40
 suf:p.suf.all mayI=true∧p.suf.length≤40
 npre:p.npre.all mayI=true
 nsuf:p.nsuf.all mayI=true
 num:numZ N=(p.num,0)
 pad:isZ p.pad=true
 ok:PdOk p.at_ p.pad p.pre p.suf
 wid:p.width=if p.at_≠0 then p.pre.length+N.length+p.suf.length else 0
 one:p.neg=false→p.npre=(2,0) :: p.pre∧p.nsuf=p.suf
 two:p.neg=true→p.npre.length≤40∧p.nsuf.length≤40
 cnt:(txT p N [48]).length≤400
theorem txT_z (p:Pt) (N N2:List Nat):(txT p N N2).map z1=txT p N N2:=by
 have h1:∀ is:List Itm,(is.map tkI).map z1=is.map tkI:=fun is=>by rw [List.map_map]; exact List.map_congr_left fun i _=>z1_tk i
 have h2:∀ b pad,(padT b pad).map z1=padT b pad:=fun b pad=>by cases b <;> rfl
 have h3:∀ N,(nT N).map z1=nT N:=fun N=>by rw [nT,List.map_map]; rfl
 have h4:∀ (at_ pad:Int) (pre suf:List Itm) (N:List Nat),(hfT at_ pad pre N suf).map z1=hfT at_ pad pre N suf:=fun _ _ _ _ _=>by unfold hfT; simp only [List.map_append,h1,h2,h3]
 unfold txT
 rw [List.map_append,h4]
 cases p.neg
 · rfl
 · simp only [if_true,List.map_cons,h4]; rfl
theorem comp_text {p:Pt} {N N2:List Nat} {n2:NF} (h:GdP p N) (h2:numZ N2=(n2,0)) (hl:(txT p N N2).length≤400) (hc:allC (txC p N N2)=true):compZ (encs (txC p N N2))=p.mix:=by
 have s1:=qER h.num
 have s2:=qER h2
 obtain ⟨ts,ht,he⟩:=toks_sck hc (sck_text h.pad h.pre.1 h.suf.1 h.npre h.nsuf s1 s2) (by rw [List.length_map]; exact hl)
 obtain ⟨l1,l2⟩:=els_text h.pre.1 h.suf.1 h.npre h.nsuf s1 s2
 have hz:=z1_er he
 have hE:=elsL_z ts
 have hB:=elsB_z ts
 rw [hz,elsL_z,l1] at hE
 rw [hz,txT_z,l2] at hB
 have hB:elsB ts=none:=by
  cases hb:elsB ts with
  | none=>rfl
  | some a=>rw [hb] at hB; cases hB
 unfold compZ
 rw [ht,if_neg (fun h=>h rfl),hB]
 dsimp only
 have hA:=qM3 (b:=0) h.ok (fun _=>rfl) h.pre.1 h.pre.2 h.suf.1 h.suf.2 h.num
 have hA':=hfE_smi (at_:=p.at_) (pad:=p.pad) h.pre.1 h.suf.1 s1
 have hw:({ pre:=p.pre,suf:=p.suf,num:=p.num,at_:=p.at_,pad:=p.pad,long:=N.length:Hf }).wid=p.width:=by
  rw [h.wid,Hf.wid]
 unfold txE at hE
 cases hn:p.neg
 · rw [hn] at hE
   simp only [Bool.false_eq_true,if_false,List.append_nil] at hE;rw [compE_one hE.symm hA' hA]
   congr 1
   obtain ⟨e1,e2⟩:=h.one hn;rw [qF6,hw];obtain ⟨q1,q2,q3,q4,q5,q6,q7,q8,q9⟩:=p;dsimp only at *;subst hn e1 e2; rfl
 · rw [hn] at hE
   simp only [if_true,List.map_append,List.map_cons] at hE;obtain ⟨n1,n2'⟩:=h.two hn;obtain ⟨l,r0,el,e3,e4⟩:=List.map_eq_append_iff.1 hE.symm;obtain ⟨e,r,er0,e5,e6⟩:=List.map_eq_cons_iff.1 e4;subst er0;have hse:smi e=true:=by
    have:smi (z0 e)=smi e:=rfl;rw [← this,e5]; rfl
   have hB2:=qM3 (first:=false) (b:=0) (at_:=0) (pad:=0) (pre:=p.npre) (suf:=p.nsuf) ⟨by decide,by decide,fun _=>rfl,fun h=>absurd h (by decide),fun h=>absurd h (by decide)⟩ (fun h=>absurd rfl h) h.npre n1 h.nsuf n2' h2;have hB3:=hfE_smi (at_:=0) (pad:=0) h.npre h.nsuf s2;rw [el,compE_two e3 e6 hA' hB3 hse hA hB2]
   congr 1
   rw [qGH,qF6,hw];obtain ⟨q1,q2,q3,q4,q5,q6,q7,q8,q9⟩:=p;dsimp only at *;subst hn; rfl
theorem allC_app {a b:List Nat}:allC (a++b)=true↔allC a=true∧allC b=true:=by simp [allC]
theorem allC_it (is:List Itm):allC (itC is)=true:=(qG1 (qG6 is)).2.2.1
theorem allC_pad (b:Bool) {pad:Int} (h:isZ pad=true):allC (padC b pad)=true:=by
 cases b
 · rfl
 · rw [padC,if_pos rfl]
   split
   · decide
   · have:isC pad.toNat=true:=by
      have e:=qBP pad.toNat;rw [Int.toNat_of_nonneg (qAS.1 h).1,h] at e;exact e.symm
     simp [allC,this]; decide
theorem allC_lo {N:List Nat} (h:∀ c ∈ N,c < 128):allC N=true:=by
 refine List.all_eq_true.2 fun c hc=>?_
 have:=h c hc
 rw [isC,decide_eq_true (show c < 55296 by omega)]; rfl
theorem qM5 {at_ pad:Int} {pre suf:List Itm} {N:List Nat} (hz:isZ pad=true) (hN:ShN N):allC (hfC at_ pad pre N suf)=true:=by
 unfold hfC
 have h1:=fun b=>allC_pad b hz
 have h2:=allC_lo fun c hc=>(hN.mem c hc).2.2.2
 simp only [allC_app,h1,allC_it,h2,and_self]
theorem qM6 {p:Pt} {N N2:List Nat} (hz:isZ p.pad=true) (hN:ShN N) (h2:ShN N2):allC (txC p N N2)=true:=by
 unfold txC
 rw [allC_app]
 refine ⟨qM5 hz hN,?_⟩
 cases p.neg
 · rfl
 · simp only [if_true]
   exact qBV.2 ⟨by decide,qM5 isZ_0 h2⟩
def pdc (l:List El):Nat:=l.countP (·.2)
theorem qL5 (a b:List El):pdc (a++b)=pdc a+pdc b:=List.countP_append
theorem qD5 (e:El) (b:List El):pdc (e :: b)=(if e.2 then 1 else 0)+pdc b:=by
 rw [pdc,List.countP_cons,Nat.add_comm]; rfl
theorem pdc_none {l:List El} (h:∀ e ∈ l,e.2=false):pdc l=0:=List.countP_eq_zero.2 fun e he=>by rw [h e he]; decide
theorem tksE_cnt (l:List El):(tksE l).length+pdc l=l.length:=by
 induction l with
 | nil=>rfl
 | cons e l ih=>
  rw [qD5,tksE,List.filter_cons]
  cases he:e.2
  · simp only [Bool.not_false,if_true,List.map_cons,List.length_cons,Bool.false_eq_true,if_false]
    unfold tksE at ih; omega
  · simp only [Bool.not_true,Bool.false_eq_true,if_false,if_true,List.length_cons]
    unfold tksE at ih; omega
theorem elsL_cnt (ts:List Tok):elsB ts=none→ts.length=(elsL ts).length+pdc (elsL ts):=by
 refine qEP (P:=fun ts=>elsB ts=none→ts.length=(elsL ts).length+pdc (elsL ts)) (fun _=>rfl) ?_ ?_ ?_ ts
 · intro t l h ih hb
   rw [qDB h] at hb;have:=ih hb;rw [qCJ h,qD5,List.length_cons,List.length_cons,if_neg Bool.false_ne_true]; omega
 · intro t h hb; rw [qE2 h] at hb; cases hb
 · intro t u l h ih hb
   rw [qE1 h] at hb;have:=ih hb;rw [qCS h,qD5,List.length_cons,List.length_cons,List.length_cons,if_pos rfl]; omega
def GE (e:El):Prop:=isZ e.1.1=true∧(e.2=false→mayT e.1=true)
theorem elsL_GE (ts:List Tok):ts.all mayT=true→∀ e ∈ elsL ts,GE e:=by
 have hz:∀ t:Tok,mayT t=true→isZ t.1=true:=fun t ht=>by rw [mayT,Bool.and_eq_true] at ht; exact ht.1
 refine qEP (P:=fun ts=>ts.all mayT=true→∀ e ∈ elsL ts,GE e) (fun _ e he=>by cases he) ?_ ?_ ?_ ts
 · intro t l h ih ha e he
   rw [List.all_cons,Bool.and_eq_true] at ha;rw [qCJ h] at he
   rcases List.mem_cons.1 he with rfl | he
   · exact ⟨hz t ha.1,fun _=>ha.1⟩
   · exact ih ha.2 e he
 · intro t h ha e he; rw [qGG h] at he; cases he
 · intro t u l h ih ha e he
   rw [List.all_cons,List.all_cons,Bool.and_eq_true,Bool.and_eq_true] at ha;rw [qCS h] at he
   rcases List.mem_cons.1 he with rfl | he
   · exact ⟨hz u ha.2.1,fun h=>by cases h⟩
   · exact ih ha.2.2 e he
theorem itm_may {t:Tok} (h:mayT t=true) (_hb:badT t=false):mayI (itm t)=true:=by
 rw [mayT,Bool.and_eq_true] at h
 by_cases hs:t.2.1=false∧sgK t.1≠0
 · rw [itm_s hs.1 hs.2]
   have h1:=qG3 t.1;have h2:sgK t.1≠1:=by
    unfold sgK
    repeat' split
    all_goals decide
   exact qD1.2 (.inr ⟨by have:=hs.2; omega,h1.2,rfl⟩)
 · rw [itm,if_neg hs]
   exact qD1.2 (.inl ⟨rfl,h.1⟩)
theorem itms_may {l:List El} (hg:∀ e ∈ l,GE e) (h:(itms (tksE l)).2.1=0):(itms (tksE l)).1.all mayI=true∧(itms (tksE l)).1.length≤40∧(itms (tksE l)).1.length=(tksE l).length:=by
 cases hf:(tksE l).find? badT with
 | some t=>rw [qG4 hf] at h; cases h
 | none=>
  by_cases hl:40 < (tksE l).length
  · rw [qEI hf hl] at h; cases h
  · rw [qGU hf hl]
    refine ⟨?_,by dsimp only; rw [List.length_map]; omega,by dsimp only; rw [List.length_map]⟩;refine List.all_eq_true.2 fun i hi=>?_
    obtain ⟨t,ht,rfl⟩:=List.mem_map.1 hi;have hb:=List.find?_eq_none.1 hf t ht;obtain ⟨e,he,rfl⟩:=List.mem_map.1 ht;obtain ⟨he,h2⟩:=List.mem_filter.1 he;exact itm_may ((hg e he).2 (by simpa using h2)) (by simpa using hb)
theorem padR_set (W:Nat→Int) (l:List El):∀ i a r x,a≠0→padR W i l a r=(x,0,0)→x=(a,r)∧pdc l=0:=by
 induction l with
 | nil=>intro i a r x _ h; rw [padR] at h; exact ⟨(Prod.mk.inj h).1.symm,rfl⟩
 | cons e l ih=>
  intro i a r x ha h;rw [padR] at h
  cases he:e.2
  · rw [he,if_neg (by decide)] at h
    rw [qD5,he,if_neg (by decide),Nat.zero_add];exact ih _ _ _ _ ha h
  · rw [he,if_pos rfl,if_pos (.inr ha)] at h
    have:=(Prod.mk.inj (Prod.mk.inj h).2).1
    cases this
theorem padR_get (W:Nat→Int) (l:List El):∀ i x,padR W i l 0 0=(x,0,0)→(x=(0,0)∧pdc l=0)∨∃ l1 e l2,l=l1++e :: l2∧e.2=true∧pdc l1=0∧pdc l2=0∧W (i+l1.length)≠0∧x=(W (i+l1.length),e.1.1):=by
 induction l with
 | nil=>intro i x h; rw [padR] at h; exact .inl ⟨(Prod.mk.inj h).1.symm,rfl⟩
 | cons e l ih=>
  intro i x h;rw [padR] at h
  cases he:e.2
  · rw [he,if_neg (by decide)] at h
    rcases ih _ _ h with ⟨h1,h2⟩ | ⟨l1,e',l2,rfl,h2,h3,h4,h5,h6⟩
    · exact .inl ⟨h1,by rw [qD5,he,if_neg (by decide),h2]⟩
    · refine .inr ⟨e :: l1,e',l2,rfl,h2,by rw [qD5,he,if_neg (by decide),h3],h4,?_⟩
      rw [List.length_cons,show i+(l1.length+1)=i+1+l1.length by omega];exact ⟨h5,h6⟩
  · rw [he,if_pos rfl] at h
    split at h
    · have:=(Prod.mk.inj (Prod.mk.inj h).2).1
      cases this
    · rename_i hw
      have hw1:W i≠0:=fun e=>hw (.inl e)
      obtain ⟨h1,h2⟩:=padR_set W l _ _ _ _ hw1 h;exact .inr ⟨[],e,l,rfl,he,rfl,h2,hw1,h1⟩
theorem qL6 {first:Bool} {b:Int} {l:List El} {H:Hf} (hg:∀ e ∈ l,GE e) (h:halfZ first b l=(H,0,0)) :
 ∃ N,numZ N=(H.num,0)∧H.long=N.length∧(H.pre.all mayI=true∧H.pre.length≤40)∧(H.suf.all mayI=true∧H.suf.length≤40)∧PdOk H.at_ H.pad H.pre H.suf∧isZ H.pad=true∧(first=false→H.at_=0) ∧
  l.length+pdc l=H.pre.length+N.length+H.suf.length+(if H.at_=0 then 0 else 2):=by
 have hparts:=qBE l
 have hgp:∀ e ∈ hpre l,GE e:=fun e he=>hg e (qKT he)
 have hgs:∀ e ∈ hsuf l,GE e:=fun e he=>hg e (qKU he)
 unfold halfZ at h
 cases hn:hnum l with
 | nil=>rw [hn] at h; have:=(Prod.mk.inj (Prod.mk.inj h).2).1; cases this
 | cons e0 r0=>
  rw [hn] at h;dsimp only at h;rw [← hn] at h
  split at h
  · rename_i hp; exact absurd (Prod.mk.inj (Prod.mk.inj h).2).1 hp
  · rename_i hp
    split at h
    · rename_i hq; exact absurd (Prod.mk.inj (Prod.mk.inj h).2).1 hq
    · rename_i hq
      split at h
      · rename_i hm
        have:=(Prod.mk.inj (Prod.mk.inj h).2).1;exact absurd (by omega) hm
      · rename_i hm
        split at h
        · rename_i hs; exact absurd (Prod.mk.inj (Prod.mk.inj h).2).1 hs
        · rename_i hs
          have hp:=Decidable.not_not.1 hp;have hq:=Decidable.not_not.1 hq;have hm:=Decidable.not_not.1 hm;have hs:=Decidable.not_not.1 hs;obtain rfl:=(Prod.mk.inj h).1.symm;clear h;obtain ⟨a1,a2,a3⟩:=itms_may hgp hq;obtain ⟨b1,b2,b3⟩:=itms_may hgs hs;have hnl:pdc (hnum l)=0:=pdc_none fun e he=>(qD3 l e he).1
          have hlen:=congrArg List.length hparts;have hcnt:=congrArg pdc hparts;rw [List.length_append,List.length_append] at hlen;rw [qL5,qL5,hnl] at hcnt;have ha:=tksE_cnt (hpre l);have hb:=tksE_cnt (hsuf l);have hpz:padZ first l=((padZ first l).1,0,0):=by
           have h2:(padZ first l).2.2=0:=(padR_mem _ l 0 0 0).1 hp;exact Prod.ext rfl (Prod.ext hp h2)
          refine ⟨chE (hnum l),Prod.ext rfl hm,(List.length_map ..).symm,⟨a1,a2⟩,⟨b1,b2⟩,?_⟩;dsimp only;rw [a3,b3,show (chE (hnum l)).length=(hnum l).length from List.length_map ..];unfold padZ at hpz
          rcases padR_get _ l 0 _ hpz with ⟨h1,h2⟩ | ⟨l1,e,l2,hl,h2,h3,h4,h5,h6⟩
          · have h1':(padZ first l).1=(0,0):=h1
            rw [h1'];exact ⟨⟨by decide,by decide,fun _=>rfl,fun h=>absurd h (by decide),fun h=>absurd h (by decide)⟩,isZ_0,fun _=>rfl,by rw [if_pos rfl]; omega⟩
          · have h6':(padZ first l).1=_:=h6
            rw [h6'];rw [Nat.zero_add] at h5 h6' ⊢;have hpl:pdc l=1:=by rw [hl,qL5,qD5,h2,h3,h4]; rfl
            have hf:first=true:=by
             cases first
             · exact absurd (by unfold whr; rw [if_pos rfl]) h5
             · rfl
            have hN0:0 < (hnum l).length:=by rw [hn]; exact Nat.zero_lt_succ _
            have hll:l.length=l1.length+(l2.length+1):=by
             conv=>lhs; rw [hl]
             rw [List.length_append,List.length_cons]
            subst hf;have hW:whr true (hpre l).length ((hpre l).length+(hnum l).length) l.length l1.length=_:=rfl;unfold whr at h5 ⊢;rw [if_neg (by decide)] at h5 ⊢;dsimp only;refine ⟨⟨?_,?_,fun h0=>absurd h0 h5,?_,?_⟩,(hg e (by rw [hl]; simp)).1,(fun h=>by cases h),(by rw [if_neg h5]; omega)⟩
            · repeat' split
              all_goals decide
            · repeat' split
              all_goals decide
            · intro h2' e0
              have hz:(tksE (hpre l)).length=0:=by rw [← a3,e0]; rfl
              split at h2'
              · cases h2'
              · split at h2'
                · omega
                · split at h2'
                  · cases h2'
                  · split at h2'
                    · cases h2'
                    · cases h2'
            · intro h4' e0
              have hz:(tksE (hsuf l)).length=0:=by rw [← b3,e0]; rfl
              split at h4'
              · cases h4'
              · split at h4'
                · cases h4'
                · split at h4'
                  · cases h4'
                  · split at h4'
                    · rename_i g1 g2 g3 g4
                      have hl2:l2=[]:=List.eq_nil_of_length_eq_zero (by omega);have hs0:(hsuf l).length=0:=by omega
                      have hs0:=List.eq_nil_of_length_eq_zero hs0
                      rcases List.eq_nil_or_concat (hnum l) with hc | ⟨c,z,hc⟩
                      · rw [hc] at hN0; cases hN0
                      · rw [List.concat_eq_append] at hc
                        have e1:l1++[e]=(hpre l++c)++[z]:=by
                         rw [List.append_assoc,← hc];rw [hs0,List.append_nil] at hparts;rw [← hparts,← hl2]; exact hl.symm
                        have e2:=(List.append_inj' e1 rfl).2;have e3:e ∈ hnum l:=by
                         rw [hc];have:e=z:=by simpa using e2
                         rw [this]; simp
                        have:=(qD3 l e e3).1;rw [h2] at this; cases this
                    · cases h4'
theorem hfT_len (at_ pad:Int) (pre suf:List Itm) (N:List Nat) (h:PdOk at_ pad pre suf):(hfT at_ pad pre N suf).length=pre.length+N.length+suf.length+(if at_=0 then 0 else 2):=by
 have hk:at_=0∨at_=1∨at_=2∨at_=3∨at_=4:=by have:=h.lo; have:=h.hi; omega
 have hp:∀ b pad,(padT b pad).length=if b then 2 else 0:=fun b pad=>by cases b <;> rfl
 rw [hfT,nT]
 simp only [List.length_append,List.length_map,hp]
 rcases hk with rfl | rfl | rfl | rfl | rfl <;> simp <;> omega
theorem pd0 {pre suf:List Itm}:PdOk 0 0 pre suf:=⟨by decide,by decide,fun _=>rfl,fun h=>absurd h (by decide),fun h=>absurd h (by decide)⟩
theorem qIO {p:Pt} (h:PdOk p.at_ p.pad p.pre p.suf) (N N2:List Nat):(txT p N N2).length=p.pre.length+N.length+p.suf.length+(if p.at_=0 then 0 else 2)+(if p.neg then 1+(p.npre.length+N2.length+p.nsuf.length) else 0):=by
 unfold txT
 rw [List.length_append,hfT_len _ _ _ _ _ h]
 cases p.neg
 · rfl
 · simp only [if_true,List.length_cons,hfT_len _ _ _ _ _ pd0]; omega
theorem mix_ok {p q:Pt} (h:p.mix=(q,0,0)):q=p∧(p.has 4 && p.has 5)=false:=by
 unfold Pt.mix at h
 split at h
 · have:=(Prod.mk.inj (Prod.mk.inj h).2).1; cases this
 · rename_i hm
   exact ⟨(Prod.mk.inj h).1.symm,Bool.eq_false_iff.2 hm⟩
theorem gd_of {l:List Nat} (hl:∀ b ∈ l,b < 256) {p:Pt} (h:compZ l=(p,0,0)):∃ N,GdP p N∧(txT p N [48]).length≤(toks l).1.length∧(p.has 4 && p.has 5)=false:=by
 obtain ⟨hmay,h400,-⟩:=qEG hl
 unfold compZ at h
 split at h
 · rename_i ht; exact absurd (Prod.mk.inj (Prod.mk.inj h).2).1 ht
 · generalize (toks l).1=ts at *
   cases hB:elsB ts with
   | some a=>rw [hB] at h; have:=(Prod.mk.inj (Prod.mk.inj h).2).1; cases this
   | none=>
    rw [hB] at h;dsimp only at h;have hg:=elsL_GE ts hmay;have hc:=elsL_cnt ts hB;generalize elsL ts=es at *;have hpart:es=qA7 es++qAY es:=List.takeWhile_append_dropWhile.symm;have hg1:∀ e ∈ qA7 es,GE e:=fun e he=>hg e (by rw [hpart]; exact List.mem_append_left _ he)
    have hg2:∀ e ∈ qAY es,GE e:=fun e he=>hg e (by rw [hpart]; exact List.mem_append_right _ he)
    have hlen:=congrArg List.length hpart;have hcnt:=congrArg pdc hpart;rw [List.length_append] at hlen;rw [qL5] at hcnt;have hm2:mayI (2,0)=true:=by decide
    unfold qC9 at h
    cases hs:qAY es with
    | nil=>
     rw [hs] at h hlen hcnt;dsimp only at h
     split at h
     · rename_i hq; exact absurd (Prod.mk.inj (Prod.mk.inj h).2).1 hq
     · rename_i hq
       have hq:=Decidable.not_not.1 hq;have hH:halfZ true 0 (qA7 es)=((halfZ true 0 (qA7 es)).1,0,0):=Prod.ext rfl (Prod.ext hq ((qEQ _ _ _).1 hq));obtain ⟨N,n1,n2,n3,n4,n5,n6,-,n8⟩:=qL6 hg1 hH;generalize (halfZ true 0 (qA7 es)).1=A at *;obtain ⟨rfl,hmix⟩:=mix_ok h;have htl:(txT (qF6 A) N [48]).length≤ts.length:=by
        rw [qIO (p:=qF6 A) n5]
        show A.pre.length+N.length+A.suf.length+(if A.at_=0 then 0 else 2)+0≤_
        have:([]:List El).length=0:=rfl;have:pdc []=0:=rfl;omega
       refine ⟨N,⟨n3,n4,?_,n4.1,n1,n6,n5,?_,fun _=>⟨rfl,rfl⟩,(fun h=>by cases h),Nat.le_trans htl h400⟩,htl,hmix⟩
       · show ((2,0) :: A.pre).all mayI=true
         rw [List.all_cons,hm2,n3.1]; rfl
       · show A.wid=_
         rw [Hf.wid,n2]; rfl
    | cons e r=>
     rw [hs] at h hlen hcnt hg2;dsimp only at h
     cases hs2:qAY r with
     | cons f r2=>rw [hs2] at h; have:=(Prod.mk.inj (Prod.mk.inj h).2).1; cases this
     | nil=>
      rw [hs2] at h;dsimp only at h
      split at h
      · rename_i hq; exact absurd (Prod.mk.inj (Prod.mk.inj h).2).1 hq
      · rename_i hq
        split at h
        · rename_i hq2; exact absurd (Prod.mk.inj (Prod.mk.inj h).2).1 hq2
        · rename_i hq2
          have hq:=Decidable.not_not.1 hq;have hq2:=Decidable.not_not.1 hq2;have hH:halfZ true 0 (qA7 es)=((halfZ true 0 (qA7 es)).1,0,0):=Prod.ext rfl (Prod.ext hq ((qEQ _ _ _).1 hq));have hH2:halfZ false (e.1.2.2+1) r=((halfZ false (e.1.2.2+1) r).1,0,0):=Prod.ext rfl (Prod.ext hq2 ((qEQ _ _ _).1 hq2));obtain ⟨N,n1,n2,n3,n4,n5,n6,-,n8⟩:=qL6 hg1 hH;obtain ⟨M,m1,m2,m3,m4,m5,m6,m7,m8⟩:=qL6 (fun x hx=>hg2 x (List.mem_cons_of_mem _ hx)) hH2;generalize (halfZ true 0 (qA7 es)).1=A at *;generalize (halfZ false (e.1.2.2+1) r).1=B at *;obtain ⟨rfl,hmix⟩:=mix_ok h;have hM:=List.length_pos_iff.2 (qER m1).ne;have htl:(txT (qGH A B) N [48]).length≤ts.length:=by
           rw [qIO (p:=qGH A B) n5]
           show A.pre.length+N.length+A.suf.length+(if A.at_=0 then 0 else 2)+(1+(B.pre.length+1+B.suf.length))≤_
           rw [List.length_cons] at hlen;rw [qD5] at hcnt;rw [if_pos (m7 rfl)] at m8;omega
          refine ⟨N,⟨n3,n4,m3.1,m4.1,n1,n6,n5,?_,(fun h=>by cases h),fun _=>⟨m3.2,m4.2⟩,Nat.le_trans htl h400⟩,htl,hmix⟩
          show A.wid=_
          rw [Hf.wid,n2]; rfl
theorem body_sci {body:List Nat} {me:Nat} {plus:Bool} {p:NF} (h:numB body true me plus=(p,0)) (hexp:1≤me∧me≤9) :
 (p.sci=true∧p.minExp=me∧p.plus=plus)∧body.length+1≤max (leastN p) (p.minInt+p.maxSig)+(if p.prim=0 then 1 else if p.sec=p.prim then 2 else 3)+(if 0 < p.maxFrac then 1+p.maxFrac else 0):=by
 obtain ⟨_,hW,-⟩:=qGW h (.inl ⟨rfl,hexp⟩)
 obtain ⟨-,hne,hP⟩:=qGA hW
 have hpf:body.any (· == 46)=true→0 < (dnA 46 body).length:=by
  intro hb;unfold numW at hW;rw [hb] at hW
  cases hd:dnA 46 body with
  | cons x r=>exact Nat.zero_lt_succ _
  | nil=>
   rw [hd,if_pos (by simp)] at hW;exact absurd (Prod.mk.inj hW).2 (by decide)
 clear hW
 have hl1:=qKG (upA 46 body) 0
 have hl3:=qGY (upA 46 body) 0
 have hbody:body.length=(upA 46 body).length+(if body.any (· == 46) then 1+(dnA 46 body).length else 0):=by
  split
  · rename_i hb; exact qKH hb
  · rename_i hb; rw [qGB (Bool.eq_false_iff.2 hb)]; rfl
 have hdn:body.any (· == 46)=false→dnA 46 body=[]:=qDX
 generalize upA 46 body=W at *
 generalize dnA 46 body=F at *
 generalize spl W 0=sz at *
 generalize body.any (· == 46)=pt at *
 unfold numP at hP
 split at hP
 · split at hP
   · exact absurd (Prod.mk.inj hP).2 (by decide)
   · rename_i hp
     split at hP
     · exact absurd (Prod.mk.inj hP).2 (by decide)
     · obtain ⟨f1,-,f3⟩:=qGV hP
       simp only [Bool.true_and,Bool.or_eq_false_iff,decide_eq_false_iff_not] at f1;obtain rfl:pt=false:=by
        cases pt
        · rfl
        · exact absurd (by simp) hp
       obtain rfl:=hdn rfl;rw [List.append_nil] at hne;have hd:(pln W).dropWhile h35=pln W:=by
        cases hq:pln W with
        | nil=>rfl
        | cons x r=>
         rw [List.dropWhile_cons,if_neg];intro hx;refine f1.2 ?_;rw [hq];have:x=35:=by simpa [h35] using hx
         rw [this]; rfl
       rw [if_neg (by decide)] at hbody;rw [← f3];refine ⟨⟨rfl,rfl,rfl⟩,?_⟩
       show body.length+1≤max _ (0+((pln W).dropWhile h35).length)+(if primZ sz=0 then 1 else _)+0
       rw [hd,primZ,if_neg f1.1,if_pos rfl];omega
 · split at hP
   · exact absurd (Prod.mk.inj hP).2 (by decide)
   · split at hP
     · exact absurd (Prod.mk.inj hP).2 (by decide)
     · obtain ⟨f1,-,f3⟩:=qGV hP
       simp only [Bool.true_and,decide_eq_false_iff_not] at f1;rw [← f3];refine ⟨⟨rfl,rfl,rfl⟩,?_⟩
       show body.length+1≤max (pln W).length _+(if primZ sz=0 then 1 else _)+(if 0 < F.length then 1+F.length else 0)
       rw [primZ,if_neg f1,if_pos rfl]
       cases pt
       · rw [if_neg (by decide)] at hbody; omega
       · have:=hpf rfl
         rw [if_pos rfl] at hbody;rw [if_pos this]; omega
theorem sci_len {N:List Nat} {p:NF} (h:numZ N=(p,0)) (hs:p.sci=true):N.length=(prN p 0).length:=by
 refine Nat.le_antisymm ?_ (qJA h)
 have hok:=qLN h
 have hpl:=qFQ hok 0
 unfold numZ at h
 cases ha:N.any (· == 69)
 · rw [ha,if_neg (by decide)] at h
   have:=(qGW h (.inr ⟨rfl,rfl,rfl⟩)).2.1;have hP:=(qGA this).2.2;have:p.sci=false:=by rcases qLP hP with ⟨-,rfl⟩ | rfl <;> rfl
   rw [hs] at this; cases this
 · rw [ha,if_pos rfl] at h
   split at h
   · rename_i h1
     exact absurd (Prod.mk.inj h).2 h1
   · rename_i h1
     have h1:(expZ (dnA 69 N)).1=0:=Decidable.not_not.1 h1;obtain ⟨⟨e1,e2,e3⟩,hb⟩:=body_sci h (qIB h1);have hll:=qKH ha;have hel:=qKI (dnA 69 N);have hx:(expZ (dnA 69 N)).2.1=(expT (dnA 69 N)).length∧(expZ (dnA 69 N)).2.2=decide ((dnA 69 N).head? = some 43):=by
      unfold expZ at h1 ⊢
      split at h1
      · exact absurd h1 (by decide)
      · rename_i g1
        split at h1
        · exact absurd h1 (by decide)
        · rename_i g2
          rw [if_neg g1,if_neg g2]; exact ⟨rfl,rfl⟩
     rw [e1,e2,e3,hx.1,hx.2,if_pos rfl,if_pos rfl] at hpl;simp only [decide_eq_true_iff] at hpl;omega
def morP (p:Pt):Nat:=if p.at_=0 then 0 else p.width - p.pre.length - p.suf.length - (prN p.num 0).length
theorem gd_pr {p:Pt} {N:List Nat} (h:GdP p N):GdP p (prN p.num (morP p))∧(txT p (prN p.num (morP p)) [48]).length≤(txT p N [48]).length:=by
 have hok:=qLN h.num
 have hsh:=qJA h.num
 have hL:(p.at_≠0→(prN p.num (morP p)).length=N.length)∧(prN p.num (morP p)).length≤N.length:=by
  by_cases ha:p.at_=0
  · rw [morP,if_pos ha]; exact ⟨fun h=>absurd ha h,hsh⟩
  · have hw:=h.wid
    rw [if_pos ha] at hw;have hm:morP p=N.length - (prN p.num 0).length:=by rw [morP,if_neg ha,hw]; omega
    have:(prN p.num (morP p)).length=N.length:=by
     cases hs:p.num.sci
     · rw [pr_more_len hok hs,hm]; omega
     · rw [pr_sci hs]; exact (sci_len h.num hs).symm
    exact ⟨fun _=>this,by omega⟩
 have htl:(txT p (prN p.num (morP p)) [48]).length≤(txT p N [48]).length:=by
  rw [qIO h.ok,qIO h.ok]; omega
 refine ⟨⟨h.pre,h.suf,h.npre,h.nsuf,num_back hok _,h.pad,h.ok,?_,h.one,h.two,Nat.le_trans htl h.cnt⟩,htl⟩
 rw [h.wid]
 by_cases ha:p.at_=0
 · rw [if_neg (by simp [ha]),if_neg (by simp [ha])]
 · rw [if_pos ha,if_pos ha,hL.1 ha]
def prP (p:Pt):List Nat:=txC p (prN p.num (morP p)) [48]
theorem qL7 {p:Pt} {N:List Nat} (h:GdP p N) (hm:(p.has 4 && p.has 5)=false):compZ (encs (prP p))=(p,0,0)∧allC (prP p)=true:=by
 have g:=(gd_pr h).1
 have h0:numZ [48]=({ minInt:=1 },0):=by decide
 have hc:=qM6 (p:=p) h.pad (qER g.num) (qER h0)
 refine ⟨?_,hc⟩
 rw [prP,comp_text g h0 g.cnt hc,Pt.mix,if_neg (by rw [hm]; decide)]
theorem encs_lo {cs:List Nat} (h:∀ c ∈ cs,c < 128):encs cs=cs:=by
 induction cs with
 | nil=>rfl
 | cons c cs ih=>
  rw [qAI,ih fun x hx=>h x (List.mem_cons_of_mem _ hx),encN,if_pos (h c (List.mem_cons_self ..))]; rfl
theorem ShN.encs {N:List Nat} (h:ShN N):encs N=N:=encs_lo fun c hc=>(h.mem c hc).2.2.2
end Go.Proofs.YtnoeonaajefajaaGreatDoor
