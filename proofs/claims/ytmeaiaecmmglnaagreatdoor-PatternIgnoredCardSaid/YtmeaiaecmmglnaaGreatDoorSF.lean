import Derived.Test.YtmeaiaecmmglnaaGreatDoorSA
set_option linter.all false
set_option maxRecDepth 100000
namespace Go.Proofs.YtmeaiaecmmglnaaGreatDoor
def z1 (t:Tok):Tok:=(t.1,t.2.1,0)
def z0 (e:El):El:=(z1 e.1,e.2)
theorem z1_er {ts us:List Tok} (h:ts.map er=us.map er):ts.map z1=us.map z1:=by
 have e:z1=(fun k:Int × Bool=>((k.1,k.2,0):Tok)) ∘ er:=rfl
 rw [e,← List.map_map,← List.map_map,h]
theorem elsL_z (ts:List Tok):elsL (ts.map z1)=(elsL ts).map z0:=by
 refine qGF (P:=fun ts=>elsL (ts.map z1)=(elsL ts).map z0) rfl ?_ ?_ ?_ ts
 · intro t l h ih
   rw [List.map_cons,qCN (show stT (z1 t)=false from h),qCN h,ih]; rfl
 · intro t h
   rw [List.map_cons,List.map_nil,qH7 (show stT (z1 t)=true from h),qH7 h]; rfl
 · intro t u l h ih
   rw [List.map_cons,List.map_cons,qDS (show stT (z1 t)=true from h),qDS h,ih]; rfl
theorem elsB_z (ts:List Tok):elsB (ts.map z1)=(elsB ts).map fun _=>0:=by
 refine qGF (P:=fun ts=>elsB (ts.map z1)=(elsB ts).map fun _=>0) rfl ?_ ?_ ?_ ts
 · intro t l h ih
   rw [List.map_cons,qD1 (show stT (z1 t)=false from h),qD1 h,ih]
 · intro t h
   rw [List.map_cons,List.map_nil,qES (show stT (z1 t)=true from h),qES h]; rfl
 · intro t u l h ih
   rw [List.map_cons,List.map_cons,qEG (show stT (z1 t)=true from h),qEG h,ih]
theorem els_app {ts:List Tok} (h:elsB ts=none) (us:List Tok):elsL (ts++us)=elsL ts++elsL us∧elsB (ts++us)=elsB us:=by
 revert h
 refine qGF (P:=fun ts=>elsB ts=none→elsL (ts++us)=elsL ts++elsL us∧elsB (ts++us)=elsB us) (fun _=>⟨rfl,rfl⟩) ?_ ?_ ?_ ts
 · intro t l h ih hb
   rw [qD1 h] at hb;rw [List.cons_append,qCN h,qCN h,qD1 h,(ih hb).1,(ih hb).2]; exact ⟨rfl,rfl⟩
 · intro t h hb
   rw [qES h] at hb; cases hb
 · intro t u l h ih hb
   rw [qEG h] at hb;rw [List.cons_append,List.cons_append,qDS h,qDS h,qEG h,(ih hb).1,(ih hb).2]; exact ⟨rfl,rfl⟩
theorem els_pl {ts:List Tok} (h:∀ t ∈ ts,stT t=false):elsL ts=ts.map (fun t=>(t,false))∧elsB ts=none:=by
 induction ts with
 | nil=>exact ⟨rfl,rfl⟩
 | cons t ts ih=>
  have h1:=h t (List.mem_cons_self ..);obtain ⟨i1,i2⟩:=ih fun u hu=>h u (List.mem_cons_of_mem _ hu)
  rw [qCN h1,qD1 h1,i1,i2]; exact ⟨rfl,rfl⟩
theorem els_pd {t u:Tok} (h:stT t=true) (us:List Tok):elsL (t :: u :: us)=((u.1,false,t.2.2),true) :: elsL us∧elsB (t :: u :: us)=elsB us:=⟨qDS h u us,qEG h u us⟩
theorem qKN {α:Type} (f:α→α) (p:α→Bool) (h:∀ x,p (f x)=p x) (l:List α):(l.map f).takeWhile p=(l.takeWhile p).map f∧(l.map f).dropWhile p=(l.dropWhile p).map f:=by
 induction l with
 | nil=>exact ⟨rfl,rfl⟩
 | cons x l ih=>
  rw [List.map_cons,List.takeWhile_cons,List.dropWhile_cons,List.takeWhile_cons,List.dropWhile_cons,h x]
  cases p x
  · exact ⟨rfl,rfl⟩
  · simp only [if_true]; rw [ih.1,ih.2]; exact ⟨rfl,rfl⟩
theorem bhd_z (l:List El):bhd (l.map z0)=(bhd l).map z0:=by
 unfold bhd
 rw [(qKN z0 bdy (fun _=>rfl) l).2]
 cases l.dropWhile bdy with
 | nil=>rfl
 | cons e b=>
  rw [List.map_cons];dsimp only;rw [show plE 69 (z0 e)=plE 69 e from rfl]
  cases plE 69 e
  · rfl
  · simp only [if_true]
    cases b with
    | nil=>rfl
    | cons f c=>
     rw [List.map_cons];dsimp only;rw [show plE 43 (z0 f)=plE 43 f from rfl]
     cases plE 43 f
     · simp only [Bool.false_eq_true,if_false]
       rw [← List.map_cons];exact (qKN z0 bdy (fun _=>rfl) (f :: c)).2
     · exact (qKN z0 bdy (fun _=>rfl) c).2
theorem hpre_z (l:List El):hpre (l.map z0)=(hpre l).map z0:=(qKN z0 (fun e=>!bdy e) (fun _=>rfl) l).1
theorem hrst_z (l:List El):hrst (l.map z0)=(hrst l).map z0:=(qKN z0 (fun e=>!bdy e) (fun _=>rfl) l).2
theorem hsuf_z (l:List El):hsuf (l.map z0)=(hsuf l).map z0:=by rw [hsuf,hrst_z,bhd_z]; rfl
theorem hnum_z (l:List El):hnum (l.map z0)=(hnum l).map z0:=by
 rw [hnum,hsuf_z,hrst_z,List.length_map,List.length_map,← List.map_take]; rfl
theorem tksE_z (l:List El):tksE (l.map z0)=(tksE l).map z1:=by
 induction l with
 | nil=>rfl
 | cons e l ih=>
  unfold tksE at ih ⊢;rw [List.map_cons,List.filter_cons,List.filter_cons,show (!(z0 e).2) = !e.2 from rfl]
  cases e.2
  · simp only [Bool.not_false,if_true,List.map_cons,ih]; rfl
  · simp only [Bool.not_true,Bool.false_eq_true,if_false,ih]
theorem chE_z (l:List El):chE (l.map z0)=chE l:=by rw [chE,List.map_map]; rfl
theorem qIS (ts:List Tok):(itms (ts.map z1)).1=(itms ts).1∧(itms (ts.map z1)).2.1=(itms ts).2.1:=by
 have hf:(ts.map z1).find? badT=(ts.find? badT).map z1:=by
  induction ts with
  | nil=>rfl
  | cons t ts ih=>
   rw [List.map_cons,List.find?_cons,List.find?_cons,show badT (z1 t)=badT t from rfl]
   cases badT t
   · exact ih
   · rfl
 cases h:ts.find? badT with
 | some t=>rw [h] at hf; rw [qGZ h,qGZ hf]; exact ⟨rfl,rfl⟩
 | none=>
  rw [h] at hf
  by_cases hl:40 < ts.length
  · rw [qFN h hl,qFN hf (by rw [List.length_map]; exact hl)]; exact ⟨rfl,rfl⟩
  · rw [qHQ h hl,qHQ hf (by rw [List.length_map]; exact hl)]
    refine ⟨?_,rfl⟩;rw [List.map_map]; rfl
theorem padR_z (W:Nat→Int) (l:List El):∀ i a r,(padR W i (l.map z0) a r).1=(padR W i l a r).1∧(padR W i (l.map z0) a r).2.1=(padR W i l a r).2.1:=by
 induction l with
 | nil=>intro i a r; exact ⟨rfl,rfl⟩
 | cons e l ih=>
  intro i a r;rw [List.map_cons,padR,padR,show (z0 e).2=e.2 from rfl]
  cases e.2
  · exact ih _ _ _
  · simp only [if_true]
    split
    · exact ⟨rfl,rfl⟩
    · exact ih _ _ _
theorem padZ_z (first:Bool) (l:List El):(padZ first (l.map z0)).1=(padZ first l).1∧(padZ first (l.map z0)).2.1=(padZ first l).2.1:=by
 rw [padZ,hpre_z,hnum_z,List.length_map,List.length_map,List.length_map]
 exact padR_z _ l _ _ _
theorem halfZ_z (first:Bool) (b b':Int) (l:List El):(halfZ first b (l.map z0)).1=(halfZ first b' l).1∧(halfZ first b (l.map z0)).2.1=(halfZ first b' l).2.1:=by
 unfold halfZ
 rw [(padZ_z first l).1,(padZ_z first l).2,hnum_z,hpre_z,hsuf_z,tksE_z,tksE_z,(qIS (tksE (hpre l))).1,(qIS (tksE (hpre l))).2,(qIS (tksE (hsuf l))).1,(qIS (tksE (hsuf l))).2,chE_z,List.length_map]
 cases hnum l with
 | nil=>exact ⟨rfl,rfl⟩
 | cons e r=>
  rw [List.map_cons];dsimp only
  by_cases h1:(padZ first l).2.1≠0
  · rw [if_pos h1,if_pos h1]; exact ⟨rfl,(padZ_z first l).2⟩
  · rw [if_neg h1,if_neg h1]
    by_cases h2:(itms (tksE (hpre l))).2.1≠0
    · rw [if_pos h2,if_pos h2]; exact ⟨rfl,(qIS (tksE (hpre l))).2⟩
    · rw [if_neg h2,if_neg h2]
      by_cases h3:(numZ (chE (e :: r))).2≠0
      · rw [if_pos h3,if_pos h3]; exact ⟨rfl,rfl⟩
      · rw [if_neg h3,if_neg h3]
        by_cases h4:(itms (tksE (hsuf l))).2.1≠0
        · rw [if_pos h4,if_pos h4]; exact ⟨rfl,(qIS (tksE (hsuf l))).2⟩
        · rw [if_neg h4,if_neg h4]; exact ⟨rfl,rfl⟩
theorem qH9 {first:Bool} {b b':Int} {l l':List El} {H:Hf} (h:halfZ first b' l'=(H,0,0)) (e:l.map z0=l'.map z0):halfZ first b l=(H,0,0):=by
 have h1:=halfZ_z first b b l
 have h2:=halfZ_z first b b' l'
 rw [e] at h1
 have e1:(halfZ first b l).1=H:=by rw [← h1.1,h2.1,h]
 have e2:(halfZ first b l).2.1=0:=by rw [← h1.2,h2.2,h]
 have e3:=(qKI first b l).1 e2
 exact Prod.ext e1 (Prod.ext e2 e3)
theorem scn_app (xs:List Nat) {ys:List Nat} (hy:ys.head?≠some 39):∀ (a:Nat) (o:Int),scn (xs++ys) a o=((scn xs a o).1++(scn ys (a+(encs xs).length) (scn xs a o).2).1,(scn ys (a+(encs xs).length) (scn xs a o).2).2):=by
 induction xs using qGA with
 | h0=>intro a o; rw [qF9]; rfl
 | h2 cs ih=>
  intro a o;have e:(encs (39 :: 39 :: cs)).length=2+(encs cs).length:=by
   rw [qAB,qAB,List.length_append,List.length_append]
   show 1+(1+_)=_
   omega
  rw [List.cons_append,List.cons_append,qCF,qCF,ih,e,Nat.add_assoc]; rfl
 | h1 cs hh ih=>
  intro a o;have e:(encs (39 :: cs)).length=1+(encs cs).length:=by rw [qAB,List.length_append]; rfl
  have hh':(cs++ys).head?≠some 39:=by
   cases cs with
   | nil=>exact hy
   | cons c cs=>exact hh
  rw [List.cons_append,qC1 hh',qC1 hh,ih,e,Nat.add_assoc]
 | he c cs hc ih=>
  intro a o;have e:(encs (c :: cs)).length=(encN c).length+(encs cs).length:=by rw [qAB,List.length_append]
  rw [List.cons_append,qB4 hc,qB4 hc,ih,e,Nat.add_assoc]; rfl
theorem sck_prt2 (ts:List Tok) {rest:List Nat} (hr:rest.head?≠some 39):∀ (row:List Int),row.all isZ=true→ts.all mayT=true→sck (nats (prt ts row)++rest) false=(row.map (fun r=>(r,true))++(ts.map er++(sck rest false).1),(sck rest false).2):=by
 induction ts with
 | nil=>
  intro row hz _;rw [qJ6,sck_inQ hz hr]; rfl
 | cons t ts ih=>
  intro row hz hm;rw [List.all_cons,Bool.and_eq_true] at hm;obtain ⟨h1,h2⟩:=hm;simp only [mayT,Bool.and_eq_true,Bool.or_eq_true,Bool.not_eq_true',decide_eq_false_iff_not] at h1;obtain ⟨hc,hq⟩:=h1
  rcases ht:t.2.1 with _ | _
  · rw [ht] at hq
    have h39:t.1≠39:=by rcases hq with h | h; cases h; exact h
    have hN:t.1.toNat≠39:=fun h=>h39 ((isZ_39 hc).1 h)
    rw [prt_p ht,qAU,qK7,List.append_assoc,List.cons_append,sck_inQ hz (by simp [hN]),qDN hN,ih [] rfl h2,Int.toNat_of_nonneg (qBC.1 hc).1];simp [er,ht]
  · rw [prt_q ht,ih _ (by rw [List.all_append,hz]; simp [hc]) h2]
    simp [er,ht]
theorem sck_pl {N:List Nat} (h:∀ c ∈ N,c≠39) (rest:List Nat) (b:Bool):sck (N++rest) b=(N.map (fun c:Nat=>((c:Int),b))++(sck rest b).1,(sck rest b).2):=by
 induction N with
 | nil=>rfl
 | cons c N ih=>
  rw [List.cons_append,qDN (h c (List.mem_cons_self ..)),ih fun x hx=>h x (List.mem_cons_of_mem _ hx)]; rfl
theorem toks_sck {cs:List Nat} {ks:List (Int × Bool)} (h:allC cs=true) (hs:sck cs false=(ks,false)) (hl:ks.length≤400):∃ ts,toks (encs cs)=(ts,0,0)∧ts.map er=ks:=by
 obtain ⟨h1,h2⟩:=qGB cs 0 (-1)
 rw [show decide (0≤(-1:Int))=false from rfl,hs] at h1 h2
 refine ⟨_,qD9 h (by simpa using h2) ?_,h1⟩
 have:=congrArg List.length h1
 rw [List.length_map] at this
 rw [this]; exact hl
theorem okB_bdC {c:Nat} (h:okB c=true):bdC (c:Int)=true∧c≠69∧c≠39∧c≠42∧c≠59∧c < 128:=by
 simp only [okB,h35,a64,dg,Bool.or_eq_true,beq_iff_eq,Bool.and_eq_true,decide_eq_true_eq] at h
 refine ⟨?_,by omega,by omega,by omega,by omega,by omega⟩
 rw [bdC,decide_eq_true_iff]; omega
def tlE (t:List Nat):Prop:=∃ (pl:Bool) (n:Nat),t=69 :: ((if pl then [43] else [])++List.replicate (n+1) 48)
def ShN (N:List Nat):Prop:=∃ B t,N=B++t∧B≠[]∧(∀ c ∈ B,okB c=true)∧(t=[]∨tlE t)
theorem numB_sh {body:List Nat} {sci:Bool} {me:Nat} {plus:Bool} {p:NF} (h:numB body sci me plus=(p,0)) (hexp:(sci=true∧1≤me∧me≤9)∨(sci=false∧me=0∧plus=false)):body≠[]∧∀ c ∈ body,okB c=true:=by
 obtain ⟨h1,h2,-⟩:=numB_ok h hexp
 obtain ⟨-,hne,-⟩:=numW_form h2
 refine ⟨?_,List.all_eq_true.1 h1⟩
 rintro rfl
 exact hne rfl
theorem qDC {N:List Nat} {p:NF} (h:numZ N=(p,0)):ShN N:=by
 unfold numZ at h
 cases ha:N.any (· == 69)
 · rw [ha,if_neg (by decide),cut_none ha] at h
   obtain ⟨h1,h2⟩:=numB_sh h (.inr ⟨rfl,rfl,rfl⟩);exact ⟨N,[],by simp,h1,h2,.inl rfl⟩
 · rw [ha,if_pos rfl] at h
   split at h
   · rename_i h1; exact absurd (Prod.mk.inj h).2 h1
   · rename_i h1
     have h1:(expZ (dnA 69 N)).1=0:=Decidable.not_not.1 h1;obtain ⟨h2,h3⟩:=numB_sh h (.inl ⟨rfl,expZ_ok h1⟩);have hsp:N=upA 69 N++69 :: dnA 69 N:=by
      have e:=List.takeWhile_append_dropWhile (p:=(· != 69)) (l:=N);have hd:N.dropWhile (· != 69)≠[]:=by
       intro e0;rw [e0,List.append_nil] at e;obtain ⟨x,hx,hx9⟩:=List.any_eq_true.1 ha;rw [← e] at hx;have:=tw_mem hx;rw [beq_iff_eq] at hx9;subst hx9
       cases this
      cases hdw:N.dropWhile (· != 69) with
      | nil=>exact absurd hdw hd
      | cons x r=>
       have hx:=qFP N x (A:=(· != 69)) (by rw [hdw]; rfl);have hx:x=69:=by simpa using hx
       subst hx;rw [upA,dnA,hdw];rw [hdw] at e;exact e.symm
     refine ⟨_,_,hsp,h2,h3,.inr ?_⟩;generalize dnA 69 N=e at *;have hx:(expT e).isEmpty=false∧(expT e).all z48=true:=by
      unfold expZ at h1
      split at h1
      · exact absurd h1 (by decide)
      · rename_i g
        simp only [Bool.or_eq_true,not_or,Bool.not_eq_true,Bool.not_eq_false'] at g;exact ⟨g.1,by simpa using g.2⟩
     have hr:∀ l:List Nat,l.all z48=true→l=List.replicate l.length 48:=fun l hl=>List.eq_replicate_iff.2 ⟨rfl,fun x hx=>z48_iff.1 (List.all_eq_true.1 hl x hx)⟩
     have hlen:∃ n,(expT e).length=n+1:=⟨(expT e).length - 1,by
      have:(expT e)≠[]:=fun e0=>by rw [e0] at hx; cases hx.1
      have:=List.length_pos_iff.2 this;omega⟩
     obtain ⟨n,hn⟩:=hlen;have hxe:=hr _ hx.2;rw [hn] at hxe
     by_cases hp:e.head? = some 43
     · cases e with
       | nil=>cases hp
       | cons x r=>
        obtain rfl:x=43:=Option.some.inj hp;refine ⟨true,n,?_⟩;rw [if_pos rfl];have:expT (43 :: r)=r:=by simp [expT]
        rw [this] at hxe;rw [hxe]; rfl
     · refine ⟨false,n,?_⟩
       have:expT e=e:=by rw [expT,if_neg hp]; rfl
       rw [this] at hxe;rw [if_neg (by decide),List.nil_append,← hxe]
theorem ShN.ne {N:List Nat} (h:ShN N):N≠[]:=by
 obtain ⟨B,t,rfl,h1,-⟩:=h
 intro e
 exact h1 (List.append_eq_nil_iff.1 e).1
theorem ShN.mem {N:List Nat} (h:ShN N):∀ c ∈ N,c≠39∧c≠42∧c≠59∧c < 128:=by
 obtain ⟨B,t,rfl,-,h2,h3⟩:=h
 intro c hc
 rcases List.mem_append.1 hc with hc | hc
 · have:=okB_bdC (h2 c hc); exact ⟨this.2.2.1,this.2.2.2.1,this.2.2.2.2.1,this.2.2.2.2.2⟩
 · rcases h3 with rfl | ⟨pl,n,rfl⟩
   · cases hc
   · rcases List.mem_cons.1 hc with rfl | hc
     · decide
     · rcases List.mem_append.1 hc with hc | hc
       · cases pl
         · cases hc
         · rcases List.mem_cons.1 hc with rfl | hc
           · decide
           · cases hc
       · obtain rfl:=(List.mem_replicate.1 hc).2; decide
def sN (N:List Nat):List El:=N.map fun c:Nat=>(((c:Int),false,0),false)
theorem sN_body {B:List Nat} (h:∀ c ∈ B,okB c=true):∀ e ∈ sN B,bdy e=true:=by
 intro e he
 obtain ⟨c,hc,rfl⟩:=List.mem_map.1 he
 exact bdy_iff.2 ⟨rfl,rfl,(okB_bdC (h c hc)).1⟩
theorem qGN {α:Type} {p:α→Bool} {a b:List α} (h:∀ x ∈ a,p x=true) (hb:∀ x,b.head? = some x→p x=false):(a++b).takeWhile p=a∧(a++b).dropWhile p=b:=by
 induction a with
 | nil=>
  cases b with
  | nil=>exact ⟨rfl,rfl⟩
  | cons x b=>
   have:=hb x rfl;rw [List.nil_append,List.takeWhile_cons,List.dropWhile_cons,if_neg (by rw [this]; decide),if_neg (by rw [this]; decide)]; exact ⟨rfl,rfl⟩
 | cons x a ih=>
  have h1:=h x (List.mem_cons_self ..);obtain ⟨i1,i2⟩:=ih fun y hy=>h y (List.mem_cons_of_mem _ hy)
  rw [List.cons_append,List.takeWhile_cons,List.dropWhile_cons,if_pos h1,if_pos h1,i1,i2]; exact ⟨rfl,rfl⟩
def aff (e:El):Prop:=bdy e=false∧plE 69 e=false∧smi e=false
theorem bhd_num {N:List Nat} (h:ShN N) {rest:List El} (hr:∀ e ∈ rest,aff e):bhd (sN N++rest)=rest:=by
 obtain ⟨B,t,rfl,-,hB,ht⟩:=h
 have hrh:∀ x,rest.head? = some x→bdy x=false:=fun x hx=>(hr x (List.mem_of_mem_head? hx)).1
 rcases ht with rfl | ⟨pl,n,rfl⟩
 · rw [List.append_nil]
   unfold bhd;rw [(qGN (sN_body hB) hrh).2]
   cases rest with
   | nil=>rfl
   | cons e b=>
    dsimp only;rw [if_neg (by rw [(hr e (List.mem_cons_self ..)).2.1]; decide)]
 · have hz:∀ e ∈ sN (List.replicate (n+1) 48),bdy e=true:=sN_body fun c hc=>by obtain rfl:=(List.mem_replicate.1 hc).2; rfl
   have hd:=(qGN hz hrh).2;have e1:∀ t,sN (B++69 :: t)++rest=sN B++((((69:Nat):Int),false,0),false) :: (sN t++rest):=fun t=>by simp [sN]
   rw [e1];unfold bhd;rw [(qGN (p:=bdy) (b:=((((69:Nat):Int),false,0),false) :: _) (sN_body hB) (fun x hx=>by obtain rfl:=Option.some.inj hx; rfl)).2];dsimp only;rw [if_pos (by rfl)]
   cases pl
   · rw [if_neg (by decide),List.nil_append]
     have e2:sN (List.replicate (n+1) 48)++rest=((((48:Nat):Int),false,0),false) :: (sN (List.replicate n 48)++rest):=by rw [List.replicate_succ]; rfl
     rw [e2] at hd ⊢;dsimp only;rw [if_neg (by rw [show plE 43 ((((48:Nat):Int),false,0),false)=false from rfl]; decide)];exact hd
   · have e2:sN ((if true=true then [43] else [])++List.replicate (n+1) 48)++rest=((((43:Nat):Int),false,0),false) :: (sN (List.replicate (n+1) 48)++rest):=rfl
     rw [e2];dsimp only;rw [if_pos (by rfl)];exact hd
def sI (is:List Itm):List El:=is.map fun i=>(tkI i,false)
def sP (b:Bool) (pad:Int):List El:=if b then [((pad,false,0),true)] else []
theorem sI_aff {is:List Itm} (h:is.all mayI=true):∀ e ∈ sI is,aff e∧e.2=false:=by
 intro e he
 obtain ⟨i,hi,rfl⟩:=List.mem_map.1 he
 refine ⟨?_,rfl⟩
 rcases qHR (List.all_eq_true.1 h i hi) with ⟨h1,h2⟩ | ⟨k,hk,rfl⟩
 · obtain ⟨i1,i2⟩:=i
   obtain rfl:i1=1:=h1;rw [tkI_lit,aff,bdy,plE,smi,plE];dsimp only
   cases hn:nds i2
   · have h3:=(nds_39 hn).2.2
     have h4:i2≠69:=fun e=>by rw [e] at hn; revert hn; decide
     have h5:bdC i2=false:=by rw [bdC_mrk,h3]; rfl
     have h6:i2≠59:=fun e=>by rw [e] at h3; revert h3; decide
     simp [h4,h5,h6]
   · simp
 · rw [tkI_sign]
   have:k=0∨k=1∨k=2∨k=3∨k=4:=by omega
   rcases this with rfl | rfl | rfl | rfl | rfl <;> exact ⟨by decide,by decide,by decide⟩
theorem sP_aff (b:Bool) (pad:Int):∀ e ∈ sP b pad,aff e:=by
 intro e he
 cases b
 · cases he
 · rcases List.mem_cons.1 he with rfl | he
   · exact ⟨rfl,rfl,rfl⟩
   · cases he
theorem qKO (b:Bool) (pad:Int):(sP b pad).length=if b then 1 else 0:=by cases b <;> rfl
theorem qCA (is:List Itm):(sI is).length=is.length:=List.length_map ..
theorem qDD (N:List Nat):(sN N).length=N.length:=List.length_map ..
def hPre (at_ pad:Int) (pre:List Itm):List El:=sP (decide (at_=1)) pad++(sI pre++sP (decide (at_=2)) pad)
def hSuf (at_ pad:Int) (suf:List Itm):List El:=sP (decide (at_=3)) pad++(sI suf++sP (decide (at_=4)) pad)
def hfE (at_ pad:Int) (pre:List Itm) (N:List Nat) (suf:List Itm):List El:=hPre at_ pad pre++(sN N++hSuf at_ pad suf)
theorem qJT {at_ pad:Int} {pre:List Itm} (h:pre.all mayI=true):∀ e ∈ hPre at_ pad pre,aff e:=by
 intro e he
 rcases List.mem_append.1 he with he | he
 · exact sP_aff _ _ e he
 · rcases List.mem_append.1 he with he | he
   · exact (sI_aff h e he).1
   · exact sP_aff _ _ e he
theorem qJU {at_ pad:Int} {suf:List Itm} (h:suf.all mayI=true):∀ e ∈ hSuf at_ pad suf,aff e:=by
 intro e he
 rcases List.mem_append.1 he with he | he
 · exact sP_aff _ _ e he
 · rcases List.mem_append.1 he with he | he
   · exact (sI_aff h e he).1
   · exact sP_aff _ _ e he
theorem half_cut {N:List Nat} (h:ShN N) {a b:List El} (ha:∀ e ∈ a,aff e) (hb:∀ e ∈ b,aff e):hpre (a++(sN N++b))=a∧hnum (a++(sN N++b))=sN N∧hsuf (a++(sN N++b))=b:=by
 have hne:∃ c N',N=c :: N'∧okB c=true:=by
  obtain ⟨B,t,rfl,h1,h2,-⟩:=h
  cases B with
  | nil=>exact absurd rfl h1
  | cons c B=>exact ⟨c,B++t,rfl,h2 c (List.mem_cons_self ..)⟩
 obtain ⟨c,N',e,hc⟩:=hne
 have hh:∀ x,(sN N++b).head? = some x→(fun e=>!bdy e) x=false:=by
  intro x hx;rw [e] at hx;obtain rfl:=Option.some.inj hx
  show (!bdy _)=false
  rw [bdy_iff.2 ⟨rfl,rfl,(okB_bdC hc).1⟩]; rfl
 obtain ⟨h1,h2⟩:=qGN (p:=fun e=>!bdy e) (a:=a) (b:=sN N++b) (fun x hx=>by show (!bdy x)=true; rw [(ha x hx).1]; rfl) hh
 have h3:hsuf (a++(sN N++b))=b:=by rw [hsuf,hrst,h2,bhd_num h hb]
 refine ⟨h1,?_,h3⟩
 rw [hnum,h3,hrst,h2,List.length_append,Nat.add_sub_cancel,List.take_left']
 rfl
theorem qAN (W:Nat→Int) {l:List El} (h:∀ e ∈ l,e.2=false) (r:List El):∀ i a x,padR W i (l++r) a x=padR W (i+l.length) r a x:=by
 induction l with
 | nil=>intro i a x; rfl
 | cons e l ih=>
  intro i a x;rw [List.cons_append,padR,if_neg (by rw [h e (List.mem_cons_self ..)]; decide),ih (fun y hy=>h y (List.mem_cons_of_mem _ hy)),List.length_cons]
  congr 1; omega
theorem qHA (W:Nat→Int) {e:El} (he:e.2=true) {i:Nat} (hW:W i≠0) (r:List El) (x:Int):padR W i (e :: r) 0 x=padR W (i+1) r (W i) e.1.1:=by
 rw [padR,if_pos he,if_neg (by simp [hW])]
theorem sN_np (N:List Nat):∀ e ∈ sN N,e.2=false:=by
 intro e he
 obtain ⟨c,-,rfl⟩:=List.mem_map.1 he
 rfl
theorem qGU (is:List Itm):∀ e ∈ sI is,e.2=false:=by
 intro e he
 obtain ⟨c,-,rfl⟩:=List.mem_map.1 he
 rfl
structure PdOk (at_ pad:Int) (pre suf:List Itm):Prop where
 lo:0≤at_
 hi:at_≤4
 no:at_=0→pad=0
 two:at_=2→pre≠[]
 four:at_=4→suf≠[]
theorem qKP {at_ pad:Int} {pre suf:List Itm} (h:PdOk at_ pad pre suf) {N:List Nat} (_hN:N≠[]) (W:Nat→Int)
 (hW:∀ i,i < (hfE at_ pad pre N suf).length→at_≠0→(at_=1→i=0)→(at_=2→i=pre.length)→(at_=3→i=pre.length+N.length)→(at_=4→i=pre.length+N.length+suf.length)→W i=at_) (rest:List El) :
 padR W 0 (hfE at_ pad pre N suf++rest) 0 0=padR W (hfE at_ pad pre N suf).length rest at_ pad:=by
 have hk:at_=0∨at_=1∨at_=2∨at_=3∨at_=4:=by have:=h.lo; have:=h.hi; omega
 have hln:(hfE at_ pad pre N suf).length=pre.length+N.length+suf.length+if at_=0 then 0 else 1:=by
  rw [hfE,hPre,hSuf];simp only [List.length_append,qKO,qCA,qDD]
  rcases hk with rfl | rfl | rfl | rfl | rfl <;> simp <;> omega
 rw [hln] at hW ⊢
 unfold hfE hPre hSuf
 rcases hk with rfl | rfl | rfl | rfl | rfl
 · obtain rfl:=h.no rfl
   show padR W 0 (([]++(sI pre++[]))++(sN N++([]++(sI suf++[])))++rest) 0 0=_
   rw [List.nil_append,List.nil_append,List.append_nil,List.append_nil,List.append_assoc,List.append_assoc,qAN W (qGU pre),qAN W (sN_np N),qAN W (qGU suf),qCA,qCA,qDD]
   congr 1; rw [if_pos rfl]; omega
 · show padR W 0 (([((pad,false,0),true)]++(sI pre++[]))++(sN N++([]++(sI suf++[])))++rest) 0 0=_
   have hw:=hW 0 (by rw [if_neg (by decide)]; omega) (by decide) (fun _=>rfl) (by omega) (by omega) (by omega);rw [List.nil_append,List.append_nil,List.append_nil,List.append_assoc,List.append_assoc,List.append_assoc,List.singleton_append,qHA W rfl (by rw [hw]; decide),qAN W (qGU pre),qAN W (sN_np N),qAN W (qGU suf),qCA,qCA,qDD,hw]
   congr 1; rw [if_neg (by decide)]; omega
 · show padR W 0 (([]++(sI pre++[((pad,false,0),true)]))++(sN N++([]++(sI suf++[])))++rest) 0 0=_
   have hw:=hW pre.length (by rw [if_neg (by decide)]; omega) (by decide) (by omega) (fun _=>rfl) (by omega) (by omega);rw [List.nil_append,List.nil_append,List.append_nil,List.append_assoc,List.append_assoc,List.append_assoc,qAN W (qGU pre),List.singleton_append,qCA,Nat.zero_add,qHA W rfl (by rw [hw]; decide),qAN W (sN_np N),qAN W (qGU suf),qCA,qDD,hw]
   congr 1; rw [if_neg (by decide)]; omega
 · show padR W 0 (([]++(sI pre++[]))++(sN N++([((pad,false,0),true)]++(sI suf++[])))++rest) 0 0=_
   have hw:=hW (pre.length+N.length) (by rw [if_neg (by decide)]; omega) (by decide) (by omega) (by omega) (fun _=>rfl) (by omega);rw [List.nil_append,List.append_nil,List.append_nil,List.append_assoc,List.append_assoc,List.append_assoc,qAN W (qGU pre),qAN W (sN_np N),List.singleton_append,qCA,qDD,Nat.zero_add,qHA W rfl (by rw [hw]; decide),qAN W (qGU suf),qCA,hw]
   congr 1; rw [if_neg (by decide)]; omega
 · show padR W 0 (([]++(sI pre++[]))++(sN N++([]++(sI suf++[((pad,false,0),true)])))++rest) 0 0=_
   have hw:=hW (pre.length+N.length+suf.length) (by rw [if_neg (by decide)]; omega) (by decide) (by omega) (by omega) (by omega) (fun _=>rfl);rw [List.nil_append,List.nil_append,List.append_nil,List.append_assoc,List.append_assoc,List.append_assoc,qAN W (qGU pre),qAN W (sN_np N),qAN W (qGU suf),List.singleton_append,qCA,qCA,qDD,Nat.zero_add,qHA W rfl (by rw [hw]; decide),hw]
   congr 1
theorem qFY (a b:List El):tksE (a++b)=tksE a++tksE b:=by rw [tksE,List.filter_append,List.map_append]; rfl
theorem tksE_sI (is:List Itm):tksE (sI is)=is.map tkI:=by
 induction is with
 | nil=>rfl
 | cons i is ih=>
  show tksE ((tkI i,false) :: sI is)=_
  rw [tksE,List.filter_cons,if_pos (by rfl),List.map_cons,List.map_cons];exact congrArg (tkI i :: ·) ih
theorem qJV (b:Bool) (pad:Int):tksE (sP b pad)=[]:=by cases b <;> rfl
theorem qKQ {is:List Itm} (h:is.all mayI=true) (hl:is.length≤40):itms (is.map tkI)=(is,0,0):=itms_back h hl (by rw [qAQ h])
theorem chE_sN (N:List Nat):chE (sN N)=N:=by
 rw [chE,sN,List.map_map]
 induction N with
 | nil=>rfl
 | cons c N ih=>rw [List.map_cons,ih]; rfl
theorem qI6 {first:Bool} {b:Int} {at_ pad:Int} {pre suf:List Itm} {N:List Nat} {n:NF} (h:PdOk at_ pad pre suf) (hf:at_≠0→first=true) (hp:pre.all mayI=true) (hp4:pre.length≤40) (hs:suf.all mayI=true)
 (hs4:suf.length≤40) (hN:numZ N=(n,0)):halfZ first b (hfE at_ pad pre N suf)=(⟨pre,suf,n,at_,pad,N.length⟩,0,0):=by
 have hsh:=qDC hN
 obtain ⟨c1,c2,c3⟩:=half_cut hsh (qJT (at_:=at_) (pad:=pad) hp) (qJU (at_:=at_) (pad:=pad) hs)
 have hk:at_=0∨at_=1∨at_=2∨at_=3∨at_=4:=by have:=h.lo; have:=h.hi; omega
 have hN0:=List.length_pos_iff.2 hsh.ne
 have hlp:(hPre at_ pad pre).length=pre.length+if at_=1∨at_=2 then 1 else 0:=by
  rw [hPre]; simp only [List.length_append,qKO,qCA]
  rcases hk with rfl | rfl | rfl | rfl | rfl <;> simp <;> omega
 have hls:(hSuf at_ pad suf).length=suf.length+if at_=3∨at_=4 then 1 else 0:=by
  rw [hSuf]; simp only [List.length_append,qKO,qCA]
  rcases hk with rfl | rfl | rfl | rfl | rfl <;> simp <;> omega
 have hln:(hfE at_ pad pre N suf).length=(hPre at_ pad pre).length+(N.length+(hSuf at_ pad suf).length):=by
  rw [hfE,List.length_append,List.length_append,qDD]
 have hpd:padZ first (hfE at_ pad pre N suf)=((at_,pad),0,0):=by
  rw [padZ];have e:=qKP h hsh.ne (whr first (hpre (hfE at_ pad pre N suf)).length ((hpre (hfE at_ pad pre N suf)).length+(hnum (hfE at_ pad pre N suf)).length) (hfE at_ pad pre N suf).length) ?_ []
  · rw [List.append_nil] at e
    rw [e]; rfl
  · intro i hi ha h1 h2 h3 h4
    have h2':=h.two;have h4':=h.four;unfold hfE at hi hln ⊢;rw [c1,c2,hln,qDD,whr,if_neg (by rw [hf ha]; decide),hlp,hls]
    rcases hk with rfl | rfl | rfl | rfl | rfl
    · exact absurd rfl ha
    · rw [if_pos (h1 rfl)]
    · have hq:=List.length_pos_iff.2 (h2' rfl)
      have:=h2 rfl;rw [if_neg (by omega),if_pos (by rw [if_pos (by decide)]; omega)]
    · have:=h3 rfl
      rw [if_neg (by omega),if_neg (by rw [if_neg (by decide)]; omega),if_pos (by rw [if_neg (by decide)]; omega)]
    · have hq:=List.length_pos_iff.2 (h4' rfl)
      have:=h4 rfl;rw [if_neg (by omega),if_neg (by rw [if_neg (by decide)]; omega),if_neg (by rw [if_neg (by decide)]; omega),if_pos (by rw [if_neg (by decide),if_pos (by decide)]; omega)]
 unfold halfZ
 rw [hpd]
 unfold hfE
 rw [c1,c2,c3]
 have t1:tksE (hPre at_ pad pre)=pre.map tkI:=by rw [hPre,qFY,qFY,qJV,qJV,tksE_sI,List.append_nil,List.nil_append]
 have t2:tksE (hSuf at_ pad suf)=suf.map tkI:=by rw [hSuf,qFY,qFY,qJV,qJV,tksE_sI,List.append_nil,List.nil_append]
 rw [t1,t2,chE_sN,qKQ hp hp4,qKQ hs hs4,hN,qDD]
 cases N with
 | nil=>exact absurd rfl hsh.ne
 | cons c N=>rfl
def padC (b:Bool) (pad:Int):List Nat:=if b then 42 :: (if pad=39 then [39,39] else [pad.toNat]) else []
def itC (is:List Itm):List Nat:=nats (prt (tksI is) [])
def hfC (at_ pad:Int) (pre:List Itm) (N:List Nat) (suf:List Itm):List Nat:=
 padC (decide (at_=1)) pad++(itC pre++(padC (decide (at_=2)) pad++(N++(padC (decide (at_=3)) pad++(itC suf++padC (decide (at_=4)) pad)))))
def txC (p:Pt) (N N2:List Nat):List Nat:=hfC p.at_ p.pad p.pre N p.suf++(if p.neg then 59 :: hfC 0 0 p.npre N2 p.nsuf else [])
def t0 (k:Int × Bool):Tok:=(k.1,k.2,0)
def padT (b:Bool) (pad:Int):List Tok:=if b then [(42,false,0),(pad,decide (pad=39),0)] else []
def nT (N:List Nat):List Tok:=N.map fun c:Nat=>((c:Int),false,0)
def hfT (at_ pad:Int) (pre:List Itm) (N:List Nat) (suf:List Itm):List Tok:=
 padT (decide (at_=1)) pad++(pre.map tkI++(padT (decide (at_=2)) pad++(nT N++(padT (decide (at_=3)) pad++(suf.map tkI++padT (decide (at_=4)) pad)))))
def txT (p:Pt) (N N2:List Nat):List Tok:=hfT p.at_ p.pad p.pre N p.suf++(if p.neg then (59,false,0) :: hfT 0 0 p.npre N2 p.nsuf else [])
theorem qJW (b:Bool) {pad:Int} (hz:isZ pad=true) (rest:List Nat):sck (padC b pad++rest) false=((padT b pad).map er++(sck rest false).1,(sck rest false).2):=by
 cases b
 · rfl
 · by_cases h:pad=39
   · subst h
     show sck (42 :: 39 :: 39 :: rest) false=_
     rw [qDN (by decide),qJ8]; rfl
   · have e:padC true pad=[42,pad.toNat]:=by rw [padC,if_pos rfl,if_neg h]
     rw [e]
     show sck (42 :: pad.toNat :: rest) false=_
     rw [qDN (by decide),qDN (fun e=>h ((isZ_39 hz).1 e)),Int.toNat_of_nonneg (qBC.1 hz).1];rw [padT,if_pos rfl,decide_eq_false h]; rfl
theorem sck_it {is:List Itm} (h:is.all mayI=true) {rest:List Nat} (hr:rest.head?≠some 39):sck (itC is++rest) false=((is.map tkI).map er++(sck rest false).1,(sck rest false).2):=by
 have:=sck_prt2 (tksI is) hr [] rfl (qCI is)
 rw [itC,this,qAQ h]; rfl
theorem sck_n {N:List Nat} (h:ShN N) (rest:List Nat):sck (N++rest) false=((nT N).map er++(sck rest false).1,(sck rest false).2):=by
 rw [sck_pl (fun c hc=>(h.mem c hc).1),nT,List.map_map]; rfl
theorem ShN.head {N:List Nat} (h:ShN N) (rest:List Nat):(N++rest).head?≠some 39:=by
 have h1:=h.mem
 have h2:=h.ne
 cases N with
 | nil=>exact absurd rfl h2
 | cons c N=>exact fun e=>(h1 c (List.mem_cons_self ..)).1 (Option.some.inj e)
theorem qKR (b:Bool) (pad:Int) {rest:List Nat} (hr:rest.head?≠some 39):(padC b pad++rest).head?≠some 39:=by
 cases b
 · exact hr
 · show (some 42:Option Nat)≠some 39; decide
theorem qFZ {at_ pad:Int} {pre suf:List Itm} {N:List Nat} (hz:isZ pad=true) (hp:pre.all mayI=true) (hs:suf.all mayI=true) (hN:ShN N) {rest:List Nat} (hr:rest.head?≠some 39) :
 sck (hfC at_ pad pre N suf++rest) false=((hfT at_ pad pre N suf).map er++(sck rest false).1,(sck rest false).2):=by
 unfold hfC hfT
 simp only [List.append_assoc,List.map_append]
 rw [qJW _ hz,sck_it hp (qKR _ _ (hN.head _)),qJW _ hz,sck_n hN,qJW _ hz,sck_it hs (qKR _ _ hr),qJW _ hz]
theorem isZ_0:isZ 0=true:=by decide
theorem sck_text {p:Pt} {N N2:List Nat} (hz:isZ p.pad=true) (hp:p.pre.all mayI=true) (hs:p.suf.all mayI=true) (hnp:p.npre.all mayI=true) (hns:p.nsuf.all mayI=true) (hN:ShN N) (h2:ShN N2) :
 sck (txC p N N2) false=((txT p N N2).map er,false):=by
 unfold txC txT
 cases p.neg
 · have:=qFZ (at_:=p.at_) hz hp hs hN (rest:=[]) (by simp)
   simp only [Bool.false_eq_true,if_false];rw [this,qJ7,List.append_nil,List.append_nil]
 · have h3:=qFZ (at_:=0) (pad:=0) isZ_0 hnp hns h2 (rest:=[]) (by simp)
   rw [List.append_nil,qJ7] at h3;simp only [if_true];rw [qFZ (at_:=p.at_) hz hp hs hN (by show (some 59:Option Nat)≠some 39; decide),qDN (by decide),h3];simp [er]
theorem stT_tk {i:Itm} (h:mayI i=true):stT (tkI i)=false:=by
 obtain ⟨h1,h2,-⟩:=qH0 h
 rw [badT] at h2
 rw [stT]
 cases hq:(tkI i).2.1
 · rw [hq,Bool.not_false,Bool.true_and] at h2
   rw [Bool.not_false,Bool.true_and,decide_eq_false_iff_not];intro e;rw [e] at h2
   revert h2; decide
 · rfl
theorem z1_tk (i:Itm):z1 (tkI i)=tkI i:=by unfold tkI; split <;> rfl
theorem qEH (b:Bool) (pad:Int) (us:List Tok):elsL (padT b pad++us)=sP b pad++elsL us∧elsB (padT b pad++us)=elsB us:=by
 cases b
 · exact ⟨rfl,rfl⟩
 · exact els_pd rfl us
theorem els_seg {ts:List Tok} (h:∀ t ∈ ts,stT t=false) (us:List Tok):elsL (ts++us)=ts.map (fun t=>(t,false))++elsL us∧elsB (ts++us)=elsB us:=by
 obtain ⟨h1,h2⟩:=els_pl h
 have:=els_app h2 us
 rw [h1] at this; exact this
theorem els_it {is:List Itm} (h:is.all mayI=true) (us:List Tok):elsL (is.map tkI++us)=sI is++elsL us∧elsB (is.map tkI++us)=elsB us:=by
 have:=els_seg (ts:=is.map tkI) (fun t ht=>by obtain ⟨i,hi,rfl⟩:=List.mem_map.1 ht; exact stT_tk (List.all_eq_true.1 h i hi)) us
 rw [List.map_map] at this; exact this
theorem els_n {N:List Nat} (h:∀ c ∈ N,c≠42) (us:List Tok):elsL (nT N++us)=sN N++elsL us∧elsB (nT N++us)=elsB us:=by
 have:=els_seg (ts:=nT N) (fun t ht=>by
  obtain ⟨c,hc,rfl⟩:=List.mem_map.1 ht;have:=h c hc;rw [stT];simp only [Bool.not_false,Bool.true_and,decide_eq_false_iff_not];omega) us
 rw [nT,List.map_map] at this; exact this
theorem qG0 {at_ pad:Int} {pre suf:List Itm} {N:List Nat} (hp:pre.all mayI=true) (hs:suf.all mayI=true) (hN:∀ c ∈ N,c≠42) (us:List Tok) :
 elsL (hfT at_ pad pre N suf++us)=hfE at_ pad pre N suf++elsL us∧elsB (hfT at_ pad pre N suf++us)=elsB us:=by
 unfold hfT hfE hPre hSuf
 simp only [List.append_assoc]
 rw [(qEH _ _ _).1,(qEH _ _ _).2,(els_it hp _).1,(els_it hp _).2,(qEH _ _ _).1,(qEH _ _ _).2,(els_n hN _).1,(els_n hN _).2,(qEH _ _ _).1,(qEH _ _ _).2,(els_it hs _).1,(els_it hs _).2,(qEH _ _ _).1,(qEH _ _ _).2]
 exact ⟨rfl,rfl⟩
def txE (p:Pt) (N N2:List Nat):List El:=hfE p.at_ p.pad p.pre N p.suf++(if p.neg then ((59,false,0),false) :: hfE 0 0 p.npre N2 p.nsuf else [])
theorem els_text {p:Pt} {N N2:List Nat} (hp:p.pre.all mayI=true) (hs:p.suf.all mayI=true) (hnp:p.npre.all mayI=true) (hns:p.nsuf.all mayI=true) (hN:ShN N) (h2:ShN N2):elsL (txT p N N2)=txE p N N2∧elsB (txT p N N2)=none:=by
 have m1:=fun c hc=>(hN.mem c hc).2.1
 have m2:=fun c hc=>(h2.mem c hc).2.1
 unfold txT txE
 cases p.neg
 · have:=qG0 (at_:=p.at_) (pad:=p.pad) hp hs m1 []
   simp only [Bool.false_eq_true,if_false];exact this
 · have h3:=qG0 (at_:=0) (pad:=0) hnp hns m2 []
   rw [List.append_nil] at h3;have h4:=qG0 (at_:=p.at_) (pad:=p.pad) hp hs m1 ((59,false,0) :: hfT 0 0 p.npre N2 p.nsuf);simp only [if_true];rw [h4.1,h4.2,qCN (show stT (59,false,0)=false from rfl),qD1 (show stT (59,false,0)=false from rfl),h3.1,h3.2];refine ⟨?_,rfl⟩;rw [show elsL []=[] from rfl,List.append_nil]
theorem qJX {at_ pad:Int} {pre suf:List Itm} {N:List Nat} (hp:pre.all mayI=true) (hs:suf.all mayI=true) (hN:ShN N):∀ e ∈ hfE at_ pad pre N suf,smi e=false:=by
 intro e he
 rcases List.mem_append.1 he with he | he
 · exact (qJT hp e he).2.2
 · rcases List.mem_append.1 he with he | he
   · obtain ⟨c,hc,rfl⟩:=List.mem_map.1 he
     have:=(hN.mem c hc).2.2.1;rw [smi,plE];simp only [Bool.not_false,Bool.true_and,decide_eq_false_iff_not];omega
   · exact (qJU hs e he).2.2
theorem qJY {l:List El} (h:∀ e ∈ l,smi e=false) (r:List El) (hr:∀ e,r.head? = some e→smi e=true):qA7 (l++r)=l∧qAO (l++r)=r:=
 qGN (p:=fun e=>!smi e) (fun x hx=>by show (!smi x)=true; rw [h x hx]; rfl) (fun x hx=>by show (!smi x)=false; rw [hr x hx]; rfl)
theorem qDV {l:List El} (h:∀ e ∈ l,smi e=false):qA7 l=l∧qAO l=[]:=by
 have:=qJY h [] (by simp)
 rwa [List.append_nil] at this
theorem smi_z {l l':List El} (h:l.map z0=l'.map z0) (h':∀ e ∈ l',smi e=false):∀ e ∈ l,smi e=false:=by
 intro e he
 have:z0 e ∈ l'.map z0:=by rw [← h]; exact List.mem_map_of_mem he
 obtain ⟨f,hf,e1⟩:=List.mem_map.1 this
 have h1:smi (z0 f)=smi f:=rfl
 have h2:smi (z0 e)=smi e:=rfl
 rw [← h2,← e1,h1,h' f hf]
theorem compE_two {l r l' r':List El} {e:El} {A B:Hf} {b b':Int} (hl:l.map z0=l'.map z0) (hr:r.map z0=r'.map z0) (h1:∀ e ∈ l',smi e=false) (h2:∀ e ∈ r',smi e=false) (he:smi e=true) (hA:halfZ true b l'=(A,0,0)) (hB:halfZ false b' r'=(B,0,0)) :
 qBI (l++e :: r)=(qEV A B).mix:=by
 have e1:=qJY (smi_z hl h1) (e :: r) (fun x hx=>by obtain rfl:=Option.some.inj hx; exact he)
 have e2:=qDV (smi_z hr h2)
 unfold qBI
 rw [e1.1,e1.2]
 dsimp only
 rw [e2.2]
 dsimp only
 rw [qH9 (b:=0) hA hl,qH9 (b:=e.1.2.2+1) hB hr]
 rw [if_neg (fun h=>h rfl),if_neg (fun h=>h rfl)]
theorem compE_one {l l':List El} {A:Hf} {b:Int} (hl:l.map z0=l'.map z0) (h1:∀ e ∈ l',smi e=false) (hA:halfZ true b l'=(A,0,0)):qBI l=(qFU A).mix:=by
 have e1:=qDV (smi_z hl h1)
 unfold qBI
 rw [e1.1,e1.2]
 dsimp only
 rw [qH9 (b:=0) hA hl]
 rw [if_neg (fun h=>h rfl)]
structure GdP (p:Pt) (N:List Nat):Prop where
 pre:p.pre.all mayI=true∧p.pre.length≤40
 suf:p.suf.all mayI=true∧p.suf.length≤40
 npre:p.npre.all mayI=true
 nsuf:p.nsuf.all mayI=true
 num:numZ N=(p.num,0)
 pad:isZ p.pad=true
 ok:PdOk p.at_ p.pad p.pre p.suf
 wid:p.width=if p.at_≠0 then p.pre.length+N.length+p.suf.length else 0
 one:p.neg=false→p.npre=(2,0) :: p.pre∧p.nsuf=p.suf
 two:p.neg=true→p.npre.length≤40∧p.nsuf.length≤40
 cnt:(txT p N [48]).length≤400
theorem txT_z (p:Pt) (N N2:List Nat):(txT p N N2).map z1=txT p N N2:=by
 have h1:∀ is:List Itm,(is.map tkI).map z1=is.map tkI:=fun is=>by rw [List.map_map]; exact List.map_congr_left fun i _=>z1_tk i
 have h2:∀ b pad,(padT b pad).map z1=padT b pad:=fun b pad=>by cases b <;> rfl
 have h3:∀ N,(nT N).map z1=nT N:=fun N=>by rw [nT,List.map_map]; rfl
 have h4:∀ (at_ pad:Int) (pre suf:List Itm) (N:List Nat),(hfT at_ pad pre N suf).map z1=hfT at_ pad pre N suf:=fun _ _ _ _ _=>by unfold hfT; simp only [List.map_append,h1,h2,h3]
 unfold txT
 rw [List.map_append,h4]
 cases p.neg
 · rfl
 · simp only [if_true,List.map_cons,h4]; rfl
theorem qKS {p:Pt} {N N2:List Nat} {n2:NF} (h:GdP p N) (h2:numZ N2=(n2,0)) (hl:(txT p N N2).length≤400) (hc:allC (txC p N N2)=true):compZ (encs (txC p N N2))=p.mix:=by
 have s1:=qDC h.num
 have s2:=qDC h2
 obtain ⟨ts,ht,he⟩:=toks_sck hc (sck_text h.pad h.pre.1 h.suf.1 h.npre h.nsuf s1 s2) (by rw [List.length_map]; exact hl)
 obtain ⟨l1,l2⟩:=els_text h.pre.1 h.suf.1 h.npre h.nsuf s1 s2
 have hz:=z1_er he
 have hE:=elsL_z ts
 have hB:=elsB_z ts
 rw [hz,elsL_z,l1] at hE
 rw [hz,txT_z,l2] at hB
 have hB:elsB ts=none:=by
  cases hb:elsB ts with
  | none=>rfl
  | some a=>rw [hb] at hB; cases hB
 unfold compZ
 rw [ht,if_neg (fun h=>h rfl),hB]
 dsimp only
 have hA:=qI6 (b:=0) h.ok (fun _=>rfl) h.pre.1 h.pre.2 h.suf.1 h.suf.2 h.num
 have hA':=qJX (at_:=p.at_) (pad:=p.pad) h.pre.1 h.suf.1 s1
 have hw:({ pre:=p.pre,suf:=p.suf,num:=p.num,at_:=p.at_,pad:=p.pad,long:=N.length:Hf }).wid=p.width:=by
  rw [h.wid,Hf.wid]
 unfold txE at hE
 cases hn:p.neg
 · rw [hn] at hE
   simp only [Bool.false_eq_true,if_false,List.append_nil] at hE;rw [compE_one hE.symm hA' hA]
   congr 1
   obtain ⟨e1,e2⟩:=h.one hn;rw [qFU,hw];obtain ⟨q1,q2,q3,q4,q5,q6,q7,q8,q9⟩:=p;dsimp only at *;subst hn e1 e2; rfl
 · rw [hn] at hE
   simp only [if_true,List.map_append,List.map_cons] at hE;obtain ⟨n1,n2'⟩:=h.two hn;obtain ⟨l,r0,el,e3,e4⟩:=List.map_eq_append_iff.1 hE.symm;obtain ⟨e,r,er0,e5,e6⟩:=List.map_eq_cons_iff.1 e4;subst er0;have hse:smi e=true:=by
    have:smi (z0 e)=smi e:=rfl;rw [← this,e5]; rfl
   have hB2:=qI6 (first:=false) (b:=0) (at_:=0) (pad:=0) (pre:=p.npre) (suf:=p.nsuf) ⟨by decide,by decide,fun _=>rfl,fun h=>absurd h (by decide),fun h=>absurd h (by decide)⟩ (fun h=>absurd rfl h) h.npre n1 h.nsuf n2' h2;have hB3:=qJX (at_:=0) (pad:=0) h.npre h.nsuf s2;rw [el,compE_two e3 e6 hA' hB3 hse hA hB2]
   congr 1
   rw [qEV,qFU,hw];obtain ⟨q1,q2,q3,q4,q5,q6,q7,q8,q9⟩:=p;dsimp only at *;subst hn; rfl
theorem qHB {a b:List Nat}:allC (a++b)=true↔allC a=true∧allC b=true:=by simp [allC]
theorem allC_it (is:List Itm):allC (itC is)=true:=(qDO (qCI is)).2.2.1
theorem allC_pad (b:Bool) {pad:Int} (h:isZ pad=true):allC (padC b pad)=true:=by
 cases b
 · rfl
 · rw [padC,if_pos rfl]
   split
   · decide
   · have:isC pad.toNat=true:=by
      have e:=qBG pad.toNat;rw [Int.toNat_of_nonneg (qBC.1 h).1,h] at e;exact e.symm
     simp [allC,this]; decide
theorem allC_lo {N:List Nat} (h:∀ c ∈ N,c < 128):allC N=true:=by
 refine List.all_eq_true.2 fun c hc=>?_
 have:=h c hc
 rw [isC,decide_eq_true (show c < 55296 by omega)]; rfl
theorem qG1 {at_ pad:Int} {pre suf:List Itm} {N:List Nat} (hz:isZ pad=true) (hN:ShN N):allC (hfC at_ pad pre N suf)=true:=by
 unfold hfC
 have h1:=fun b=>allC_pad b hz
 have h2:=allC_lo fun c hc=>(hN.mem c hc).2.2.2
 simp only [qHB,h1,allC_it,h2,and_self]
theorem qKT {p:Pt} {N N2:List Nat} (hz:isZ p.pad=true) (hN:ShN N) (h2:ShN N2):allC (txC p N N2)=true:=by
 unfold txC
 rw [qHB]
 refine ⟨qG1 hz hN,?_⟩
 cases p.neg
 · rfl
 · simp only [if_true]
   exact qB7.2 ⟨by decide,qG1 isZ_0 h2⟩
theorem qJZ (at_ pad:Int) (pre suf:List Itm) (N:List Nat) (h:PdOk at_ pad pre suf):(hfT at_ pad pre N suf).length=pre.length+N.length+suf.length+(if at_=0 then 0 else 2):=by
 have hk:at_=0∨at_=1∨at_=2∨at_=3∨at_=4:=by have:=h.lo; have:=h.hi; omega
 have hp:∀ b pad,(padT b pad).length=if b then 2 else 0:=fun b pad=>by cases b <;> rfl
 rw [hfT,nT]
 simp only [List.length_append,List.length_map,hp]
 rcases hk with rfl | rfl | rfl | rfl | rfl <;> simp <;> omega
theorem pd0 {pre suf:List Itm}:PdOk 0 0 pre suf:=⟨by decide,by decide,fun _=>rfl,fun h=>absurd h (by decide),fun h=>absurd h (by decide)⟩
theorem txT_len {p:Pt} (h:PdOk p.at_ p.pad p.pre p.suf) (N N2:List Nat):(txT p N N2).length=p.pre.length+N.length+p.suf.length+(if p.at_=0 then 0 else 2)+(if p.neg then 1+(p.npre.length+N2.length+p.nsuf.length) else 0):=by
 unfold txT
 rw [List.length_append,qJZ _ _ _ _ _ h]
 cases p.neg
 · rfl
 · simp only [if_true,List.length_cons,qJZ _ _ _ _ _ pd0]; omega
theorem encs_lo {cs:List Nat} (h:∀ c ∈ cs,c < 128):encs cs=cs:=by
 induction cs with
 | nil=>rfl
 | cons c cs ih=>
  rw [qAB,ih fun x hx=>h x (List.mem_cons_of_mem _ hx),encN,if_pos (h c (List.mem_cons_self ..))]; rfl
theorem ShN.encs {N:List Nat} (h:ShN N):encs N=N:=encs_lo fun c hc=>(h.mem c hc).2.2.2
theorem padR_app (W:Nat→Int) (l r:List El):∀ i a x,padR W i (l++r) a x=if (padR W i l a x).2.1=0 then padR W (i+l.length) r (padR W i l a x).1.1 (padR W i l a x).1.2 else padR W i l a x:=by
 induction l with
 | nil=>intro i a x; rfl
 | cons e l ih=>
  intro i a x;rw [List.cons_append,padR,padR];have hl:i+(e :: l).length=i+1+l.length:=by rw [List.length_cons]; omega
  rw [hl]
  cases e.2
  · simp only [Bool.false_eq_true,if_false]; exact ih _ _ _
  · simp only [if_true]
    by_cases hw:W i=0∨a≠0
    · rw [if_pos hw,if_pos hw,if_neg (show ¬ (7:Int)=0 by decide)]
    · rw [if_neg hw,if_neg hw]; exact ih _ _ _
def pdP (n:NF) (len:Nat) (at_ pad:Int):Pt:={ pre:=[(1,97)],suf:=[(1,98)],npre:=[(2,0),(1,97)],nsuf:=[(1,98)],num:=n,at_:=at_,pad:=pad,width:=len+2 }
theorem itC_a:itC [(1,97)]=[97]:=by decide
theorem itC_b:itC [(1,98)]=[98]:=by decide
theorem pdP_gd {N:List Nat} {n:NF} (h:numZ N=(n,0)) (hl:N.length≤100) {at_ pad:Int} (h1:1≤at_) (h4:at_≤4) (hz:isZ pad=true):GdP (pdP n N.length at_ pad) N:=by
 have hok:PdOk at_ pad [(1,97)] [(1,98)]:=⟨by omega,h4,fun h=>by omega,fun _=>by simp,fun _=>by simp⟩
 refine ⟨⟨by show [((1:Int),(97:Int))].all mayI=true; decide,by show 1≤40; omega⟩,⟨by show [((1:Int),(98:Int))].all mayI=true; decide,by show 1≤40; omega⟩,by show [((2:Int),(0:Int)),(1,97)].all mayI=true; decide,by show [((1:Int),(98:Int))].all mayI=true; decide,h,hz,hok,?_,fun _=>⟨rfl,rfl⟩,(fun h=>by cases h),?_⟩
 · show N.length+2=if at_≠0 then 1+N.length+1 else 0
   rw [if_pos (by omega)]; omega
 · rw [txT_len (p:=pdP n N.length at_ pad) hok]
   show 1+N.length+1+(if at_=0 then 0 else 2)+0≤400
   rw [if_neg (by omega)]; omega
theorem pdP_comp {N:List Nat} {n:NF} (h:numZ N=(n,0)) (hl:N.length≤100) {at_ pad:Int} (h1:1≤at_) (h4:at_≤4) (hz:isZ pad=true):compZ (encs (hfC at_ pad [(1,97)] N [(1,98)]))=(pdP n N.length at_ pad,0,0):=by
 have g:=pdP_gd h hl h1 h4 hz
 have h0:numZ [48]=({ minInt:=1 },0):=by decide
 have hc:=qKT (p:=pdP n N.length at_ pad) hz (qDC h) (qDC h0)
 have e:txC (pdP n N.length at_ pad) N [48]=hfC at_ pad [(1,97)] N [(1,98)]:=List.append_nil _
 have:=qKS g h0 g.cnt hc
 rw [e] at this
 rw [this]; rfl
theorem hfT_z (at_ pad:Int) (pre suf:List Itm) (N:List Nat):(hfT at_ pad pre N suf).map z1=hfT at_ pad pre N suf:=by
 have:=txT_z { pre:=pre,suf:=suf,at_:=at_,pad:=pad } N []
 unfold txT at this
 simp only [Bool.false_eq_true,if_false,List.append_nil] at this
 exact this
theorem hfE_z (at_ pad:Int) (pre suf:List Itm) (N:List Nat):(hfE at_ pad pre N suf).map z0=hfE at_ pad pre N suf:=by
 have h1:∀ is:List Itm,(sI is).map z0=sI is:=fun is=>by
  rw [sI,List.map_map]; exact List.map_congr_left fun i _=>by show (z1 (tkI i),false)=_; rw [z1_tk]
 have h2:∀ b pad,(sP b pad).map z0=sP b pad:=fun b pad=>by cases b <;> rfl
 have h3:∀ N,(sN N).map z0=sN N:=fun N=>by rw [sN,List.map_map]; rfl
 unfold hfE hPre hSuf
 simp only [List.map_append,h1,h2,h3]
theorem pad_twice {N:List Nat} {n:NF} (h:numZ N=(n,0)) (hl:N.length≤100) {at_:Int} {c:Nat} (h1:1≤at_) (h4:at_≤4) (hz:isC c=true) (h39:c≠39) :
 (compZ (encs (hfC at_ (c:Int) [(1,97)] N [(1,98)]++[42,c]))).2.1=7∧(at_≠4→(compZ (encs (hfC at_ (c:Int) [(1,97)] N [(1,98)]++[42,c]))).2.2=((encs (hfC at_ (c:Int) [(1,97)] N [(1,98)])).length:Int)):=by
 have hs:=qDC h
 have hzz:isZ (c:Int)=true:=by rw [qBG]; exact hz
 have ha : [((1:Int),(97:Int))].all mayI=true:=by decide
 have hb : [((1:Int),(98:Int))].all mayI=true:=by decide
 have hpd:PdOk at_ (c:Int) [(1,97)] [(1,98)]:=⟨by omega,h4,fun h=>by omega,fun _=>by simp,fun _=>by simp⟩
 have hsck:=qFZ (at_:=at_) hzz ha hb hs (rest:=[]) (by simp)
 have hels:=qG0 (at_:=at_) (pad:=(c:Int)) ha hb (fun x hx=>(hs.mem x hx).2.1) []
 have hC:=qG1 (at_:=at_) (pre:=[(1,97)]) (suf:=[(1,98)]) hzz hs
 have hTl:=qJZ at_ (c:Int) _ _ N hpd
 have hTz:=hfT_z at_ (c:Int) [(1,97)] [(1,98)] N
 have hEz:=hfE_z at_ (c:Int) [(1,97)] [(1,98)] N
 have hsm:=qJX (at_:=at_) (pad:=(c:Int)) ha hb hs
 rw [List.append_nil,qJ7,List.append_nil] at hsck
 rw [List.append_nil,show elsL []=[] from rfl,List.append_nil] at hels
 rw [if_neg (by omega)] at hTl
 generalize hS:hfC at_ (c:Int) [(1,97)] N [(1,98)]=S at *
 generalize hfT at_ (c:Int) [(1,97)] N [(1,98)]=T at *
 obtain ⟨q1,q2⟩:=qGB S 0 (-1)
 rw [show decide (0≤(-1:Int))=false from rfl,hsck] at q1 q2
 have q2:(scn S 0 (-1)).2 < 0:=by simpa using q2
 have hap:=scn_app S (ys:=[42,c]) (by show (some 42:Option Nat)≠some 39; decide) 0 (-1)
 rw [Nat.zero_add,qB4 (by decide),qB4 h39,qF9] at hap
 have hdo:decide (0≤(scn S 0 (-1)).2)=false:=decide_eq_false (by omega)
 rw [hdo] at hap
 have hall:allC (S++[42,c])=true:=qHB.2 ⟨hC,by rw [qB7,qB7]; exact ⟨by decide,hz,rfl⟩⟩
 have hlT:(scn S 0 (-1)).1.length=T.length:=by have:=congrArg List.length q1; rwa [List.length_map,List.length_map] at this
 have htk:toks (encs (S++[42,c]))=((scn S 0 (-1)).1++[(42,false,((encs S).length:Int)),((c:Int),false,(((encs S).length+1:Nat):Int))],0,0):=by
  have:=qD9 hall (by rw [hap]; exact q2) (by rw [hap]; dsimp only; rw [List.length_append,hlT,hTl]; show 1+N.length+1+2+2≤400; omega);rw [this,hap]; rfl
 have hz1:=z1_er q1
 have e1:=elsL_z (scn S 0 (-1)).1
 have e2:=elsB_z (scn S 0 (-1)).1
 rw [hz1,hTz,hels.1] at e1
 rw [hz1,hTz,hels.2] at e2
 have e2:elsB (scn S 0 (-1)).1=none:=by
  cases hb:elsB (scn S 0 (-1)).1 with
  | none=>rfl
  | some a=>rw [hb] at e2; cases e2
 obtain ⟨a1,a2⟩:=els_app e2 [(42,false,((encs S).length:Int)),((c:Int),false,(((encs S).length+1:Nat):Int))]
 have p1:=els_pd (t:=(42,false,((encs S).length:Int))) (u:=((c:Int),false,(((encs S).length+1:Nat):Int))) rfl []
 rw [p1.1] at a1
 rw [p1.2] at a2
 unfold compZ
 rw [htk,if_neg (fun h=>h rfl)]
 dsimp only
 rw [a2,a1]
 dsimp only [elsB]
 rw [show elsL []=[] from rfl]
 generalize elsL (scn S 0 (-1)).1=es at *
 generalize ((encs S).length:Int)=L at *
 have hpe:smi (((c:Int),false,L),true)=false:=rfl
 have hall2:∀ e ∈ es++[(((c:Int),false,L),true)],smi e=false:=by
  intro e he
  rcases List.mem_append.1 he with he | he
  · exact smi_z (e1.symm.trans hEz.symm) hsm e he
  · rcases List.mem_cons.1 he with rfl | he
    · rfl
    · cases he
 obtain ⟨s1,s2⟩:=qDV hall2
 unfold qBI
 rw [s1,s2]
 dsimp only
 have hcut:=half_cut hs (qJT (at_:=at_) (pad:=(c:Int)) ha) (b:=hSuf at_ (c:Int) [(1,98)]++[(((c:Int),false,0),true)]) (fun e he=>by
  rcases List.mem_append.1 he with he | he
  · exact qJU hb e he
  · rcases List.mem_cons.1 he with rfl | he
    · exact ⟨rfl,rfl,rfl⟩
    · cases he)
 have hz2:(es++[(((c:Int),false,L),true)]).map z0=hPre at_ (c:Int) [(1,97)]++(sN N++(hSuf at_ (c:Int) [(1,98)]++[(((c:Int),false,0),true)])):=by
  rw [List.map_append,← e1,hfE]; simp only [List.append_assoc]; rfl
 have hn:hnum (es++[(((c:Int),false,L),true)])≠[]:=by
  intro e0;have:=hnum_z (es++[(((c:Int),false,L),true)]);rw [e0,hz2,hcut.2.1] at this;have:=congrArg List.length this;rw [qDD] at this;exact hs.ne (List.eq_nil_of_length_eq_zero this)
 have hesl:es.length=(hfE at_ (c:Int) [(1,97)] N [(1,98)]).length:=by rw [e1,List.length_map]
 have hpl:(hfE at_ (c:Int) [(1,97)] N [(1,98)]).length=N.length+3:=by
  have hk:at_=1∨at_=2∨at_=3∨at_=4:=by omega
  rw [hfE,hPre,hSuf];simp only [List.length_append,qKO,qCA,qDD,List.length_cons,List.length_nil]
  rcases hk with rfl | rfl | rfl | rfl <;> simp <;> omega
 have hprl:(hPre at_ (c:Int) [(1,97)]).length=if at_=1∨at_=2 then 2 else 1:=by
  have hk:at_=1∨at_=2∨at_=3∨at_=4:=by omega
  rw [hPre];simp only [List.length_append,qKO,qCA,List.length_cons,List.length_nil]
  rcases hk with rfl | rfl | rfl | rfl <;> rfl
 have hN0:=List.length_pos_iff.2 hs.ne
 have hpz:(padZ true (es++[(((c:Int),false,L),true)])).2.1=7∧(at_≠4→(padZ true (es++[(((c:Int),false,L),true)])).2.2=L):=by
  rw [padZ];have w1:(hpre (es++[(((c:Int),false,L),true)])).length=(hPre at_ (c:Int) [(1,97)]).length:=by
   have:=congrArg List.length (hpre_z (es++[(((c:Int),false,L),true)]));rw [hz2,hcut.1,List.length_map] at this;exact this.symm
  have w2:(hnum (es++[(((c:Int),false,L),true)])).length=N.length:=by
   have:=congrArg List.length (hnum_z (es++[(((c:Int),false,L),true)]));rw [hz2,hcut.2.1,List.length_map,qDD] at this;exact this.symm
  have w3:(es++[(((c:Int),false,L),true)]).length=N.length+4:=by rw [List.length_append,hesl,hpl]; rfl
  rw [w1,w2,w3,hprl];have hpe:=padR_z (whr true (if at_=1∨at_=2 then 2 else 1) ((if at_=1∨at_=2 then 2 else 1)+N.length) (N.length+4)) es 0 0 0;rw [← e1] at hpe;rw [padR_app]
  by_cases h44:at_=4
  · subst h44
    have hk:(padR (whr true (if (4:Int)=1∨(4:Int)=2 then 2 else 1) ((if (4:Int)=1∨(4:Int)=2 then 2 else 1)+N.length) (N.length+4)) 0 (hfE 4 (c:Int) [(1,97)] N [(1,98)]) 0 0).2.1=7:=by
     rw [if_neg (by decide)]
     show (padR _ 0 (([]++(sI [(1,97)]++[]))++(sN N++([]++(sI [(1,98)]++[(((c:Int),false,0),true)])))) 0 0).2.1=7
     rw [List.nil_append,List.nil_append,List.append_nil,qAN _ (qGU _),qAN _ (sN_np _),qAN _ (qGU _),qCA,qCA,qDD,padR,if_pos rfl,if_pos]
     left
     show whr true 1 (1+N.length) (N.length+4) (0+1+N.length+1)=0
     rw [whr,if_neg (by decide),if_neg (by omega),if_neg (by omega),if_neg (by omega),if_neg (by omega)]
    rw [hk] at hpe;rw [← hpe.2,if_neg (by decide)];exact ⟨hpe.2.symm,fun h=>absurd rfl h⟩
  · have hk:=qKP hpd hs.ne (whr true (if at_=1∨at_=2 then 2 else 1) ((if at_=1∨at_=2 then 2 else 1)+N.length) (N.length+4)) (by
     intro i hi _ k1 k2 k3 _;have hk:at_=1∨at_=2∨at_=3:=by omega
     rw [whr,if_neg (by decide)]
     rcases hk with rfl | rfl | rfl
     · rw [if_pos (k1 rfl)]
     · have:=k2 rfl
       rw [if_neg (by rw [this]; decide),if_pos (by rw [this]; rfl)]
     · have:=k3 rfl
       simp only [List.length_cons,List.length_nil] at this;rw [if_neg (by omega),if_neg (by rw [if_neg (by decide)]; omega),if_pos (by rw [if_neg (by decide)]; omega)]) []
    rw [List.append_nil,padR] at hk;rw [hk] at hpe;rw [← hpe.2,← hpe.1,if_pos rfl];dsimp only;rw [padR,if_pos rfl,if_pos (.inr (by omega))];exact ⟨rfl,fun _=>rfl⟩
 have hH:halfZ true 0 (es++[(((c:Int),false,L),true)])=({},(padZ true (es++[(((c:Int),false,L),true)])).2):=by
  unfold halfZ
  cases hq:hnum (es++[(((c:Int),false,L),true)]) with
  | nil=>exact absurd hq hn
  | cons e0 r0=>dsimp only; rw [if_pos (by rw [hpz.1]; decide)]
 rw [hH]
 dsimp only
 rw [if_pos (by rw [hpz.1]; decide)]
 exact hpz
theorem qK0 {e1:List El} {s:El} (hs:smi s=true) (r:List El):(qAO e1=[]→qA7 (e1++s :: r)=e1∧qAO (e1++s :: r)=s :: r)∧(∀ e t,qAO e1=e :: t→qA7 (e1++s :: r)=qA7 e1∧qAO (e1++s :: r)=e :: (t++s :: r)):=by
 induction e1 with
 | nil=>
  refine ⟨fun _=>?_,fun e t h=>by cases h⟩;exact qJY (l:=[]) (fun e he=>by cases he) (s :: r) (fun x hx=>by obtain rfl:=Option.some.inj hx; exact hs)
 | cons x e1 ih=>
  cases hx:smi x
  · have f1:∀ l:List El,qA7 (x :: l)=x :: qA7 l:=fun l=>by rw [qA7,List.takeWhile_cons,if_pos (by rw [hx]; rfl)]; rfl
    have f2:∀ l:List El,qAO (x :: l)=qAO l:=fun l=>by rw [qAO,List.dropWhile_cons,if_pos (by rw [hx]; rfl)]; rfl
    rw [List.cons_append,f1,f2,f1,f2];refine ⟨fun h=>⟨by rw [(ih.1 h).1],(ih.1 h).2⟩,fun e t h=>⟨by rw [(ih.2 e t h).1],(ih.2 e t h).2⟩⟩
  · have f1:∀ l:List El,qA7 (x :: l)=[]:=fun l=>by rw [qA7,List.takeWhile_cons,if_neg (by rw [hx]; decide)]
    have f2:∀ l:List El,qAO (x :: l)=x :: l:=fun l=>by rw [qAO,List.dropWhile_cons,if_neg (by rw [hx]; decide)]
    rw [List.cons_append,f1,f2,f1,f2];refine ⟨(fun h=>by cases h),fun e t h=>?_⟩
    cases h
    exact ⟨rfl,rfl⟩
theorem compE_snd (e1:List El) {s:El} (hs:smi s=true) {r r':List El} {B B':Hf} (h1:∀ e ∈ r,smi e=false) (h2:∀ e ∈ r',smi e=false) (hB:halfZ false (s.1.2.2+1) r=(B,0,0)) (hB':halfZ false (s.1.2.2+1) r'=(B',0,0)) (hp:B.pre=B'.pre∧B.suf=B'.suf) :
 qBI (e1++s :: r)=qBI (e1++s :: r'):=by
 obtain ⟨a1,a2⟩:=qK0 (e1:=e1) hs r
 obtain ⟨b1,b2⟩:=qK0 (e1:=e1) hs r'
 unfold qBI
 cases he:qAO e1 with
 | nil=>
  rw [(a1 he).1,(a1 he).2,(b1 he).1,(b1 he).2];dsimp only;rw [(qDV h1).2,(qDV h2).2,hB,hB'];dsimp only;have:∀ A,qEV A B=qEV A B':=fun A=>by rw [qEV,qEV,hp.1,hp.2]
  rw [this]
 | cons e t=>
  rw [(a2 e t he).1,(a2 e t he).2,(b2 e t he).1,(b2 e t he).2];dsimp only;obtain ⟨c1,c2⟩:=qK0 (e1:=t) hs r;obtain ⟨d1,d2⟩:=qK0 (e1:=t) hs r'
  cases ht:qAO t with
  | nil=>rw [(c1 ht).2,(d1 ht).2]
  | cons f u=>rw [(c2 f u ht).2,(d2 f u ht).2]
theorem qKU {l:List Nat} (hl:∀ b ∈ l,b < 256) (h0:(compZ l).2.1=0) {P S:List Itm} (hp:P.all mayI=true) (hs:S.all mayI=true) (hp4:P.length≤40) (hs4:S.length≤40) {N M:List Nat} {n m:NF} (hN:numZ N=(n,0)) (hM:numZ M=(m,0))
 (hc:l.length+1+(P.length+N.length+S.length)≤400) (hc':l.length+1+(P.length+M.length+S.length)≤400) :
 compZ (l++59 :: encs (hfC 0 0 P N S))=compZ (l++59 :: encs (hfC 0 0 P M S)):=by
 have key:∀ {N:List Nat} {n:NF},numZ N=(n,0)→l.length+1+(P.length+N.length+S.length)≤400→∃ r B,compZ (l++59 :: encs (hfC 0 0 P N S))=qBI (elsL (toks l).1++((59,false,(l.length:Int)),false) :: r)∧(∀ e ∈ r,smi e=false) ∧
  halfZ false ((l.length:Int)+1) r=(B,0,0)∧B.pre=P∧B.suf=S:=by
  intro N n hN hc;have hsh:=qDC hN;obtain ⟨hsp,hac,-⟩:=qE4 l hl;unfold compZ at h0;have ht:(toks l).2.1=0∧elsB (toks l).1=none:=by
   split at h0
   · rename_i h; exact absurd h0 h
   · rename_i h
     refine ⟨Decidable.not_not.1 h,?_⟩
     cases hb:elsB (toks l).1 with
     | none=>rfl
     | some a=>rw [hb] at h0; cases h0
  obtain ⟨ht,hB⟩:=ht;have htok:rst l=[]∧(scn (cps l) 0 (-1)).2 < 0∧(toks l).1=(scn (cps l) 0 (-1)).1:=by
   unfold toks at ht ⊢
   split at ht
   · cases ht
   · rename_i k1
     split at ht
     · cases ht
     · rename_i k2
       split at ht
       · cases ht
       · rename_i k3
         rw [if_neg k1,if_neg k2,if_neg k3];exact ⟨Decidable.not_not.1 k1,by omega,rfl⟩
  obtain ⟨k1,k2,k3⟩:=htok;rw [k1,List.append_nil] at hsp;rw [k3] at hB ⊢;have hlen:(scn (cps l) 0 (-1)).1.length≤l.length:=by
   have a:=scn_len (cps l) 0 (-1);have b:=encs_len (cps l);rw [← hsp] at b;omega
  have hap:=scn_app (cps l) (ys:=59 :: hfC 0 0 P N S) (by show (some 59:Option Nat)≠some 39; decide) 0 (-1);rw [qB4 (by decide),Nat.zero_add,← hsp,decide_eq_false (show ¬ 0≤(scn (cps l) 0 (-1)).2 by omega),show ((59:Nat):Int)=59 from rfl] at hap;have hsck:=qFZ (at_:=0) (pad:=0) isZ_0 hp hs hsh (rest:=[]) (by simp);rw [List.append_nil,qJ7,List.append_nil] at hsck;obtain ⟨q1,q2⟩:=qGB (hfC 0 0 P N S) (l.length+(encN 59).length) (scn (cps l) 0 (-1)).2;rw [decide_eq_false (show ¬ 0≤(scn (cps l) 0 (-1)).2 by omega),hsck] at q1 q2;have hels:=qG0 (at_:=0) (pad:=0) hp hs (fun x hx=>(hsh.mem x hx).2.1) [];rw [List.append_nil,show elsL []=[] from rfl,List.append_nil] at hels;have hTl:=qJZ 0 0 P S N pd0;rw [if_pos rfl] at hTl;generalize scn (hfC 0 0 P N S) (l.length+(encN 59).length) (scn (cps l) 0 (-1)).2=us at *;obtain ⟨us,o⟩:=us;dsimp only at *;have hul:us.length=P.length+N.length+S.length:=by
   have:=congrArg List.length q1;rw [List.length_map,List.length_map,hTl] at this;exact this
  have hall:allC (cps l++59 :: hfC 0 0 P N S)=true:=qHB.2 ⟨hac,qB7.2 ⟨by decide,qG1 isZ_0 hsh⟩⟩;have htk:=qD9 hall (by rw [hap]; simpa using q2) (by rw [hap]; dsimp only; rw [List.length_append,List.length_cons,hul]; omega);rw [hap,qAF,← hsp,qAB,show encN 59=[59] from rfl] at htk;have hz1:=z1_er q1;have e1:=elsL_z us;have e2:=elsB_z us;rw [hz1,hfT_z,hels.1] at e1;rw [hz1,hfT_z,hels.2] at e2;have e2:elsB us=none:=by
   cases hb:elsB us with
   | none=>rfl
   | some a=>rw [hb] at e2; cases e2
  obtain ⟨a1,a2⟩:=els_app hB ((59,false,(l.length:Int)) :: us);have hst:stT (59,false,(l.length:Int))=false:=rfl;rw [qCN hst] at a1;rw [qD1 hst,e2] at a2;have hhalf:=qI6 (first:=false) (b:=0) (pd0 (pre:=P) (suf:=S)) (fun h=>absurd rfl h) hp hp4 hs hs4 hN;have hsm:=qJX (at_:=0) (pad:=0) hp hs hsh;have he3:=e1.symm.trans (hfE_z 0 0 P S N).symm;refine ⟨elsL us,_,?_,smi_z he3 hsm,qH9 hhalf he3,rfl,rfl⟩;unfold compZ;rw [show l++59 :: encs (hfC 0 0 P N S)=l++([59]++encs (hfC 0 0 P N S)) from rfl,htk,if_neg (fun h=>h rfl)];dsimp only;rw [a2,a1]
 obtain ⟨r,B,f1,f2,f3,f4,f5⟩:=key hN hc
 obtain ⟨r',B',g1,g2,g3,g4,g5⟩:=key hM hc'
 rw [f1,g1]
 exact compE_snd _ rfl f2 g2 f3 g3 ⟨f4.trans g4.symm,f5.trans g5.symm⟩
def ngP (P S:List Itm) (n:NF) (b:Bool):Pt:={ pre:=P,suf:=S,neg:=b,npre:=(2,0) :: P,nsuf:=S,num:=n }
theorem ng_text {P:List Itm} (hp:P.all mayI=true) (S:List Itm) (n:NF) (N N2:List Nat):txC (ngP P S n false) N N2=itC P++(N++itC S)∧txC (ngP P S n true) N N2=itC P++(N++(itC S++59 :: 45 :: (itC P++(N2++itC S)))):=by
 have h0:∀ P N S,hfC 0 0 P N S=itC P++(N++itC S):=fun P N S=>by
  show []++(itC P++([]++(N++([]++(itC S++[])))))=_
  simp
 have h1:itC ((2,0) :: P)=45 :: itC P:=by
  have hm:((2,0) :: P:List Itm).all mayI=true:=by rw [List.all_cons,hp]; decide
  rw [itC,qAQ hm,List.map_cons,prt_p (by rfl),← qAQ hp]; rfl
 unfold txC
 rw [show (ngP P S n false).at_=0 from rfl,show (ngP P S n true).at_=0 from rfl]
 refine ⟨?_,?_⟩
 · show hfC 0 0 P N S++[]=_
   rw [h0,List.append_nil]
 · show hfC 0 0 P N S++59 :: hfC 0 0 ((2,0) :: P) N2 S=_
   rw [h0,h0,h1]; simp
theorem ng_gd {P S:List Itm} (hp:P.all mayI=true) (hs:S.all mayI=true) (hl:P.length+S.length≤39) {N:List Nat} {n:NF} (hN:numZ N=(n,0)) (hn:N.length≤100) (b:Bool):GdP (ngP P S n b) N:=by
 have hm:((2,0) :: P:List Itm).all mayI=true:=by rw [List.all_cons,hp]; decide
 refine ⟨⟨hp,by show P.length≤40; omega⟩,⟨hs,by show S.length≤40; omega⟩,hm,hs,hN,isZ_0,pd0,rfl,fun _=>⟨rfl,rfl⟩,fun _=>⟨by show P.length+1≤40; omega,by show S.length≤40; omega⟩,?_⟩
 rw [txT_len (p:=ngP P S n b) pd0]
 show P.length+N.length+S.length+0+(if b then 1+(P.length+1+1+S.length) else 0)≤400
 split <;> omega
theorem ng_comp {P S:List Itm} (hp:P.all mayI=true) (hs:S.all mayI=true) (hl:P.length+S.length≤39) {N:List Nat} {n:NF} (hN:numZ N=(n,0)) (hn:N.length≤100) (b:Bool):compZ (encs (txC (ngP P S n b) N [48]))=(ngP P S n b).mix:=by
 have g:=ng_gd hp hs hl hN hn b
 have h0:numZ [48]=({ minInt:=1 },0):=by decide
 exact qKS g h0 g.cnt (qKT isZ_0 (qDC hN) (qDC h0))
theorem ng_mix (P S:List Itm) (n:NF):(ngP P S n true).mix=if (ngP P S n false).has 4 && (ngP P S n false).has 5 then ({},6,0) else (ngP P S n true,0,0):=rfl
end Go.Proofs.YtmeaiaecmmglnaaGreatDoor
