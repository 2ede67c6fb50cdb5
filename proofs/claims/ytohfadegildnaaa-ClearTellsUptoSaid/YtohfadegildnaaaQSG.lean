import Derived.Test.YtohfadegildnaaaQRW
import Derived.Test.YtohfadegildnaaaQSA
import Derived.Test.YtohfadegildnaaaQVE
import Derived.Test.YtohfadegildnaaaQNO
import Derived.Test.YtohfadegildnaaaQSD
import Derived.Test.YtohfadegildnaaaQNX
import Derived.Test.YtohfadegildnaaaQUI
import Derived.Test.YtohfadegildnaaaQSF
set_option linter.all false
set_option maxRecDepth 100000
namespace Go.Proofs.Ytohfadegildnaaa
open Go.RowKit
open Lib (hid)
def elA (e:El):Array Value:=#[.int .i32 e.1.1,.bool e.1.2.1,.int .i64 e.1.2.2,.bool e.2]
theorem bdy_no {r a:Int} (h:mrk r=false):bdy ((r,false,a),false)=false:=by
 show (!false && (!false && bdC r))=false
 rw [bdC_mrk,h]; rfl
theorem bdy_no59 {r a:Int} (h:r=59):bdy ((r,false,a),false)=false:=by subst h; rfl
theorem bdy_no42 {r a:Int} (h:r=42):bdy ((r,false,a),false)=false:=by subst h; rfl
theorem bdy_yes {r a:Int} (h:mrk r=true) (h1:r≠59) (h2:r≠42):bdy ((r,false,a),false)=true:=by
 show (!false && (!false && bdC r))=true
 rw [bdC_mrk,h,decide_eq_true h1,decide_eq_true h2]; rfl
set_option maxHeartbeats 2000000 in
theorem qFQ (e:El) (w:World):Calls Try.prog 34 #[.agg (elA e)] w fun x w'=>x=.returned (.bool (bdy e))∧Below w.heap.size w w':=by
 obtain ⟨⟨r,q,a⟩,p⟩:=e
 change Calls _ _ #[.agg #[.int .i32 r,.bool q,.int .i64 a,.bool p]] _ _
 have HB0:=hid (qB3 w (.cells #[.int .i32 r,.bool q,.int .i64 a,.bool p] 50))
 have HM:=hid (fun W=>qHU r W)
 cases p
 · cases q
   · cases hm:mrk r
     · have HV:=hid (bdy_no (a:=a) hm)
       rw [hm] at HM;clear hm
       go_enter Try.func34,Try.ntmps34
       go_wp2_with (first
        | go_skip
        | (go_at_call 48; refine (HM.out _).mono ?_; rintro e w' ⟨rfl,rfl⟩)
        | fail)
       go_ret
       exact ⟨by rw [HV.out]; rfl,HB0.out⟩
     · rw [hm] at HM
       by_cases h1:r=59
       · have g1:(r != 59)=false:=by simpa using h1
         have HV:=hid (bdy_no59 (a:=a) h1);clear hm h1
         go_enter Try.func34,Try.ntmps34
         go_wp2_with (first
          | go_skip
          | (go_at_call 48; refine (HM.out _).mono ?_; rintro e w' ⟨rfl,rfl⟩)
          | fail)
         go_ret
         exact ⟨by rw [HV.out]; rfl,HB0.out⟩
       · have g1:(r != 59)=true:=by simpa using h1
         by_cases h2:r=42
         · have g2:(r != 42)=false:=by simpa using h2
           have HV:=hid (bdy_no42 (a:=a) h2);clear hm h1 h2
           go_enter Try.func34,Try.ntmps34
           go_wp2_with (first
            | go_skip
            | (go_at_call 48; refine (HM.out _).mono ?_; rintro e w' ⟨rfl,rfl⟩)
            | fail)
           go_ret
           exact ⟨by rw [HV.out]; rfl,HB0.out⟩
         · have g2:(r != 42)=true:=by simpa using h2
           have HV:=hid (bdy_yes (a:=a) hm h1 h2);clear hm h1 h2
           go_enter Try.func34,Try.ntmps34
           go_wp2_with (first
            | go_skip
            | (go_at_call 48; refine (HM.out _).mono ?_; rintro e w' ⟨rfl,rfl⟩)
            | fail)
           go_ret
           exact ⟨by rw [HV.out]; rfl,HB0.out⟩
   · go_enter Try.func34,Try.ntmps34
     go_wp2_with (first | go_skip | fail)
     go_ret
     exact ⟨rfl,HB0.out⟩
 · go_enter Try.func34,Try.ntmps34
   go_wp2_with (first | go_skip | fail)
   go_ret
   exact ⟨rfl,HB0.out⟩
set_option maxHeartbeats 2000000 in
theorem qF4 (e:El) (c:Int) (w:World):Calls Try.prog 16 #[.agg (elA e),.int .i32 c] w fun x w'=>x=.returned (.bool (plE c e))∧Below w.heap.size w w':=by
 obtain ⟨⟨r,q,a⟩,p⟩:=e
 change Calls _ _ #[.agg #[.int .i32 r,.bool q,.int .i64 a,.bool p],_] _ _
 have HB0:=hid (qB3 w (.cells #[.int .i32 r,.bool q,.int .i64 a,.bool p] 50))
 cases p
 · cases q
   · by_cases h:r=c
     · have g1:(r == c)=true:=by simpa using h
       have HV:=hid (show plE c ((r,false,a),false)=true by show decide (r=c)=true; exact decide_eq_true h);clear h
       go_enter Try.func16,Try.ntmps16
       go_wp2_with (first | go_skip | fail)
       go_ret
       exact ⟨by rw [HV.out]; rfl,HB0.out⟩
     · have g1:(r == c)=false:=by simpa using h
       have HV:=hid (show plE c ((r,false,a),false)=false by show decide (r=c)=false; exact decide_eq_false h);clear h
       go_enter Try.func16,Try.ntmps16
       go_wp2_with (first | go_skip | fail)
       go_ret
       exact ⟨by rw [HV.out]; rfl,HB0.out⟩
   · go_enter Try.func16,Try.ntmps16
     go_wp2_with (first | go_skip | fail)
     go_ret
     exact ⟨rfl,HB0.out⟩
 · go_enter Try.func16,Try.ntmps16
   go_wp2_with (first | go_skip | fail)
   go_ret
   exact ⟨rfl,HB0.out⟩
def dhV (x0 x1:Value) (q:NF) (at_ pad:Int) (long:Nat):Array Value:=
 #[x0,x1,.slice none 0 0,.slice none 0 0,.bool false,.slice none 0 0,.slice none 0 0,.int .i64 (q.minInt:Int),.int .i64 (q.maxInt:Int),.int .i64 (q.minFrac:Int),.int .i64 (q.maxFrac:Int),.int .i64 (q.minSig:Int),.int .i64 (q.maxSig:Int),
  .int .i64 (q.prim:Int),.int .i64 (q.sec:Int),.string (stz q.inc),.bool q.sci,.int .i64 (q.minExp:Int),.bool q.plus,.int .i64 0,.int .i32 0,.int .i64 0,.int .i64 at_,.int .i32 pad,.int .i64 (long:Int)]
def dhZ:Array Value:=#[.slice none 0 0,.slice none 0 0,.slice none 0 0,.slice none 0 0,.bool false,.slice none 0 0,.slice none 0 0,.int .i64 0,.int .i64 0,.int .i64 0,.int .i64 0,.int .i64 0,.int .i64 0,.int .i64 0,.int .i64 0,.string ⟨#[]⟩,.bool false,.int .i64 0,.bool false,.int .i64 0,.int .i32 0,.int .i64 0,.int .i64 0,.int .i32 0,.int .i64 0]
theorem dh_size (x0 x1:Value) (q:NF) (at_ pad:Int) (long:Nat):(Try.prog.info? 53).map (·.size)=some (dhV x0 x1 q at_ pad long).size:=by
 rw [show (dhV x0 x1 q at_ pad long).size=25 from rfl]; kernel_rfl
theorem qGZ (A1 A2:Option Addr) (n1 c1 n2 c2:Nat) (q:NF) (at_ pad:Int) (long:Nat):((dhV (.slice A1 n1 c1) (.slice A2 n2 c2) q at_ pad long).all (·.oneCell'))=true:=by simp [dhV,Value.oneCell']
theorem qAL:(Try.prog.info? 53).map (·.size)=some dhZ.size:=dh_size _ _ {} _ _ 0
theorem qB5:(dhZ.all (·.oneCell'))=true:=qGZ _ _ _ _ _ _ {} _ _ 0
theorem qAI {w:World} {g k:Nat} {cs vs:Array Value} {T:TypeId} (h:BX w k vs T) (hk:k≠g):BX (w.setRow g cs) k vs T:=(setRow_other w g k cs hk).trans h
structure RH (w0 W:World) (g:Nat):Prop where
 b:Below w0.heap.size w0 W
 bh:BX W g dhZ 53
 bf:BX W (g+1) #[.int .i64 0,.int .i64 0] 29
 hz:w0.heap.size=g
section
variable {w0 W W':World} {g:Nat}
theorem RH.keep (x:RH w0 W g) (hb:Below (g+2) W W'):RH w0 W' g:=
 ⟨x.b.trans (hb.mono (by have:=x.hz; omega)),x.bh.below hb (by omega),x.bf.below hb (by omega),x.hz⟩
theorem RH.below (x:RH w0 W g) (hb:Below W.heap.size W W'):RH w0 W' g:=x.keep (hb.mono x.bf.lt)
theorem RH.new (w0:World):RH w0 ((w0.alloc (.cells dhZ 53)).alloc (.cells #[.int .i64 0,.int .i64 0] 29)) w0.heap.size:=
 ⟨((Below.refl _ _).alloc (Nat.le_refl _) _).alloc (by simp) _,(BX.new w0 _ _).alloc _,by have:=BX.new (w0.alloc (.cells dhZ 53)) #[.int .i64 0,.int .i64 0] 29; simpa using this,rfl⟩
theorem RH.ret (x:RH w0 W g) (cs:Array Value) (e p:Value):BX ((W.setRow g cs).setRow (g+1) #[e,p]) g cs 53∧BX ((W.setRow g cs).setRow (g+1) #[e,p]) (g+1) #[e,p] 29∧Below w0.heap.size w0 ((W.setRow g cs).setRow (g+1) #[e,p]):=
 ⟨(setRow_other _ _ _ _ (by omega)).trans (setRow_heap _ _ _ _ _ _ x.bh),setRow_heap _ _ _ _ _ _ ((setRow_other _ _ _ _ (by omega)).trans x.bf),(x.b.setRow (Nat.le_of_eq x.hz) _).setRow (by have:=x.hz; omega) _⟩
theorem RH.drew (x:RH w0 W g):RH w0 W.drew g:=x.below ((Below.refl _ _).drew)
end
def HfD (lo:Nat) (w:World) (hv:Array Value) (H:Hf):Prop:=∃ A1 n1 c1 A2 n2 c2,hv=dhV (.slice A1 n1 c1) (.slice A2 n2 c2) H.num H.at_ H.pad H.long∧Btw w lo w.heap.size A1 n1 c1 H.pre∧Btw w lo w.heap.size A2 n2 c2 H.suf
def qAX (l:List El) (fs:Bool) (b:Int) (w:World) (e:Ending) (w':World):Prop:=∃ hv,e=.returned (.tuple #[.agg hv,.agg #[.int .i64 (halfZ fs b l).2.1,.int .i64 (halfZ fs b l).2.2]]) ∧
 Hid ((halfZ fs b l).2.1≠0→hv=dhZ)∧Hid ((halfZ fs b l).2.1=0→HfD w.heap.size w' hv (halfZ fs b l).1)∧Below w.heap.size w w'
theorem qAX.fault {l:List El} {fs:Bool} {b:Int} {w w':World} {x y:Int} (h:halfZ fs b l=({},x,y)) (hx:x≠0) (hb:Below w.heap.size w w'):qAX l fs b w (.returned (.tuple #[.agg dhZ,.agg #[.int .i64 x,.int .i64 y]])) w':=
 ⟨dhZ,by rw [h],hid fun _=>rfl,hid fun e=>absurd e (by rw [h]; exact hx),hb⟩
theorem el4_app {l a c:List El} {e:El} (h:l=a++(e :: c)):el4 l a.length=e:=by subst h; simp [el4]
theorem halfZ_1 {l:List El} {fs:Bool} {b:Int} (h:hnum l=[]):halfZ fs b l=({},4,b):=by unfold halfZ; rw [h]
section
variable {l:List El} {fs:Bool} {b:Int}
theorem halfZ_2 (h:hnum l≠[]) {x y:Int} {p:Int × Int} (hp:padZ fs l=(p,x,y)) (hx:x≠0):halfZ fs b l=({},x,y):=by
 unfold halfZ
 cases hn:hnum l with
 | nil=>exact absurd hn h
 | cons e r=>rw [hp]; exact if_pos hx
theorem halfZ_3 (h:hnum l≠[]) {p:Int × Int} (hp:padZ fs l=(p,0,0)) (h3:(itms (tksE (hpre l))).2.1≠0):halfZ fs b l=({},(itms (tksE (hpre l))).2):=by
 unfold halfZ
 cases hn:hnum l with
 | nil=>exact absurd hn h
 | cons e r=>rw [hp]; dsimp only; rw [if_neg (by decide),if_pos h3]
theorem halfZ_4 (h:hnum l≠[]) {p:Int × Int} (hp:padZ fs l=(p,0,0)) (h3:(itms (tksE (hpre l))).2.1=0) (h4:(numZ (chE (hnum l))).2≠0):halfZ fs b l=({},(((numZ (chE (hnum l))).2:Nat):Int),(el4 l (hpre l).length).1.2.2):=by
 have hpt:=qBD l
 unfold halfZ
 cases hn:hnum l with
 | nil=>exact absurd hn h
 | cons e r=>
  rw [hn] at h4 hpt;have he:el4 l (hpre l).length=e:=el4_app hpt;rw [hp]; dsimp only; rw [if_neg (by decide),if_neg (by rw [h3]; decide),if_pos h4,he]
theorem halfZ_5 (h:hnum l≠[]) {p:Int × Int} (hp:padZ fs l=(p,0,0)) (h3:(itms (tksE (hpre l))).2.1=0) (h4:(numZ (chE (hnum l))).2=0) (h5:(itms (tksE (hsuf l))).2.1≠0):halfZ fs b l=({},(itms (tksE (hsuf l))).2):=by
 unfold halfZ
 cases hn:hnum l with
 | nil=>exact absurd hn h
 | cons e r=>rw [hn] at h4; rw [hp]; dsimp only; rw [if_neg (by decide),if_neg (by rw [h3]; decide),if_neg (by rw [h4]; decide),if_pos h5]
theorem halfZ_6 (h:hnum l≠[]) {a r:Int} (hp:padZ fs l=((a,r),0,0)) (h3:(itms (tksE (hpre l))).2.1=0) (h4:(numZ (chE (hnum l))).2=0) (h5:(itms (tksE (hsuf l))).2.1=0) :
 halfZ fs b l=(⟨(itms (tksE (hpre l))).1,(itms (tksE (hsuf l))).1,(numZ (chE (hnum l))).1,a,r,(hnum l).length⟩,0,0):=by
 unfold halfZ
 cases hn:hnum l with
 | nil=>exact absurd hn h
 | cons e r0=>rw [hn] at h4; rw [hp]; dsimp only; rw [if_neg (by decide),if_neg (by rw [h3]; decide),if_neg (by rw [h4]; decide),if_neg (by rw [h5]; decide)]
end
theorem qAW (l:List El):(hpre l).length+((hnum l).length+(hsuf l).length)=l.length:=by
 have:=congrArg List.length (qBD l)
 rw [List.length_append,List.length_append] at this
 omega
theorem drop_head16 {α:Type} {p:α→Bool} (l:List α):∀ c,(l.dropWhile p).head? = some c→p c=false:=by
 induction l with
 | nil=>intro c h; cases h
 | cons x l ih=>
  intro c h;rw [List.dropWhile_cons] at h
  split at h
  · exact ih c h
  · rename_i hx
    cases h
    exact Bool.eq_false_iff.2 hx
theorem hnum_ne {l:List El} (h:(hpre l).length < l.length):hnum l≠[]:=by
 have hr:l=hpre l++hrst l:=List.takeWhile_append_dropWhile.symm
 have hl:=congrArg List.length hr
 rw [List.length_append] at hl
 rw [hnum_nmb]
 cases hq:hrst l with
 | nil=>rw [hq] at hl; simp at hl; omega
 | cons x t=>
  have hx:bdy x=true:=by
   have:=drop_head16 (p:=fun e=>!bdy e) l x (by rw [show l.dropWhile (fun e=>!bdy e)=hrst l from rfl,hq]; rfl)
   simpa using this
  rw [nmb,List.takeWhile_cons,if_pos hx];intro h0; cases h0
theorem qFR (l:List El):hrst l=l.drop (hpre l).length:=by
 have hr:l=hpre l++hrst l:=List.takeWhile_append_dropWhile.symm
 conv=>rhs; rhs; rw [hr]
 rw [List.drop_left']
 rfl
theorem qF5 {l:List El} {j i:Nat} (h:i < (l.drop j).length):el4 l (j+i)=(l.drop j)[i]:=by
 rw [List.length_drop] at h
 rw [qBZ (show j+i < l.length by omega),List.getElem_drop]
theorem qER {X:List El} {i:Nat} (h:∀ e ∈ X.take i,bdy e=true) (hi:i≤X.length) (h2:∀ h:i < X.length,bdy X[i]=false):i=(X.takeWhile bdy).length:=by
 have e:=(tw_app (p:=bdy) (a:=X.take i) (b:=X.drop i) h (fun x hx=>by
  by_cases hl:i < X.length
  · rw [List.drop_eq_getElem_cons hl] at hx
    obtain rfl:=Option.some.inj hx;exact h2 hl
  · rw [List.drop_of_length_le (by omega)] at hx; cases hx)).1
 rw [List.take_append_drop] at e
 have e2:=congrArg List.length e
 rw [List.length_take,Nat.min_eq_left hi] at e2
 exact e2.symm
theorem qDB (X:List El):(X.takeWhile bdy).length+(X.dropWhile bdy).length=X.length:=by
 have:=congrArg List.length (List.takeWhile_append_dropWhile (p:=bdy) (l:=X))
 rwa [List.length_append] at this
theorem en_eq {l:List El} {m:Nat} (h:m+(bhd (hrst l)).length=l.length):(hpre l).length+(hnum l).length=m:=by
 have:=qAW l
 have e:(hsuf l).length=(bhd (hrst l)).length:=rfl
 omega
theorem dh_row_end (l:List El):l.drop ((hpre l).length+((hrst l).takeWhile bdy).length)=(hrst l).dropWhile bdy:=by
 rw [← List.drop_drop,← qFR]
 conv=>lhs; rhs; rw [← List.takeWhile_append_dropWhile (p:=bdy) (l:=hrst l)]
 rw [List.drop_left']
 rfl
theorem dh_row_le (l:List El):(hpre l).length+((hrst l).takeWhile bdy).length≤l.length:=by
 have h1:=qDB (hrst l)
 have h2:=congrArg List.length (qFR l)
 rw [List.length_drop] at h2
 have h3:=qAW l
 omega
theorem qDC {X:List El} {k:Nat} (h:k < X.length):tksE (X.take (k+1))=tksE (X.take k)++(if X[k].2 then [] else [X[k].1]):=by
 rw [List.take_succ_eq_append_getElem h,tksE_app]
 congr 1
 cases hx:X[k].2
 · rw [tksE,List.filter_cons,hx]; simp
 · rw [tksE,List.filter_cons,hx]; simp
theorem chE_snoc {X:List El} {k:Nat} (h:k < X.length):chE (X.take (k+1))=chE (X.take k)++[X[k].1.1.toNat]:=by
 rw [List.take_succ_eq_append_getElem h,chE,List.map_append]; rfl
theorem el4_num {l:List El} {k:Nat} (h1:(hpre l).length≤k) (h2:k < (hpre l).length+(hnum l).length):∃ h:k - (hpre l).length < (hnum l).length,(hnum l)[k - (hpre l).length]=el4 l k:=by
 have hl:=qAW l
 refine ⟨by omega,?_⟩
 rw [qBZ (show k < l.length by omega)]
 have e:l[k]? = (hpre l++(hnum l++hsuf l))[k]?:=congrArg (·[k]?) (qBD l)
 rw [List.getElem?_append_right h1,List.getElem?_append_left (by omega),List.getElem?_eq_getElem (show k < l.length by omega),List.getElem?_eq_getElem (by omega)] at e
 exact (Option.some.inj e).symm
theorem qHM (l:List El):hpre l=l.take (hpre l).length:=by
 have e:(hpre l++(hnum l++hsuf l)).take (hpre l).length=hpre l:=List.take_left' rfl
 rw [← qBD l] at e
 exact e.symm
theorem hsuf_drop (l:List El):hsuf l=l.drop ((hpre l).length+(hnum l).length):=by
 have e:l=(hpre l++hnum l)++hsuf l:=by rw [List.append_assoc]; exact qBD l
 have e2:(l.drop ((hpre l).length+(hnum l).length))=(((hpre l++hnum l)++hsuf l)).drop ((hpre l).length+(hnum l).length):=congrArg (fun x=>List.drop ((hpre l).length+(hnum l).length) x) e
 rw [e2,List.drop_left']
 rw [List.length_append]
def setR (vs:Array Value):Nat→List Value→Array Value
 | _,[]=>vs
 | o,v :: r=>setR (vs.setIfInBounds o v) (o+1) r
theorem BX.mid {T:TypeId} {q:Nat} (cs:List Value):∀ {w:World} {vs:Array Value} (o:Nat),BX w q vs T→BX (w.setCells q o cs) q (setR vs o cs) T:=by
 induction cs with
 | nil=>intro w vs o h; exact h
 | cons v r ih=>intro w vs o h; exact ih (o+1) (heap_setCell_same w q o vs T v h)
theorem Below.mid {B q:Nat} {a:World} (hq:B≤q) (cs:List Value):∀ {w:World} (o:Nat),Below B a w→Below B a (w.setCells q o cs):=by
 induction cs with
 | nil=>intro w o h; exact h
 | cons v r ih=>intro w o h; exact ih (o+1) (h.setCell (p:=⟨q,o,none⟩) hq v)
theorem heap_mid {q k:Nat} (hk:k≠q) (cs:List Value):∀ (w:World) (o:Nat),(w.setCells q o cs).heap[k]? = w.heap[k]?:=by
 induction cs with
 | nil=>intro w o; rfl
 | cons v r ih=>intro w o; exact (ih _ (o+1)).trans (heap_setCell_other w ⟨q,o,none⟩ k v hk)
theorem BX.there {w:World} {q o n:Nat} {vs:Array Value} {T:TypeId} (h:BX w q vs T) (hn:o+n≤vs.size):w.there q o n:=fun j hj=>by
 refine ⟨?_,h.fr _⟩
 rw [h.c,Array.getElem?_eq_getElem (by omega)]; rfl
theorem mids_eq (at_ pad:Int) (x1 x2:Value) (nf:NF) (long:Nat):(setR (((dhV (.slice none 0 0) (.slice none 0 0) {} at_ pad 0).setIfInBounds 0 x1).setIfInBounds 1 x2) 2 (patN nf).toList).setIfInBounds 24 (.int .i64 (long:Int))=dhV x1 x2 nf at_ pad long:=by kernel_rfl
theorem mids_24 (at_ pad:Int) (x1 x2:Value) (nf:NF):(setR (((dhV (.slice none 0 0) (.slice none 0 0) {} at_ pad 0).setIfInBounds 0 x1).setIfInBounds 1 x2) 2 (patN nf).toList)[24]? = some (.int .i64 0):=by kernel_rfl
theorem mids_1 (at_ pad:Int) (x1:Value):((dhV (.slice none 0 0) (.slice none 0 0) {} at_ pad 0).setIfInBounds 0 x1)[1]? = some (.slice none 0 0):=by kernel_rfl
theorem mids_2 (at_ pad:Int) (x1 x2:Value):2+20≤(((dhV (.slice none 0 0) (.slice none 0 0) {} at_ pad 0).setIfInBounds 0 x1).setIfInBounds 1 x2).size:=by
 rw [Array.size_setIfInBounds,Array.size_setIfInBounds]; show 22≤25; omega
theorem Btw.of_ownI {w:World} {base lo:Nat} {A:Option Addr} {n c:Nat} {is:List Itm} (h:OwnI w base A n c is) (hl:lo≤base):Btw w lo w.heap.size A n c is:=(Btw.of_own h).mono hl (Nat.le_refl _) (Nat.le_refl _)
noncomputable def qCI:Code:=Try.f17.body.getD .skip
noncomputable def qCJ:Code:=sndS qCI
noncomputable def qC1:Code:=sndS qCJ
noncomputable def qCC:Code:=sndS qC1
noncomputable def qCK:Code:=sndS qCC
noncomputable def qCT:Code:=sndS qCK
noncomputable def qCZ:Code:=sndS qCT
noncomputable def qDD:Code:=sndS qCZ
noncomputable def qDN:Code:=sndS qDD
noncomputable def qE1:Code:=sndS qDN
noncomputable def qC6:Code:=sndS qE1
noncomputable def qCL:Code:=sndS qC6
noncomputable def qCX:Code:=sndS qCL
noncomputable def qDE:Code:=sndS qCX
noncomputable def qDT:Code:=sndS qDE
noncomputable def qEA:Code:=sndS qDT
noncomputable def qES:Code:=sndS qEA
noncomputable def qFS:Code:=sndS qES
noncomputable def qG4:Code:=sndS qFS
noncomputable def qHN:Code:=sndS qG4
noncomputable def tlh_20:Code:=sndS qHN
def H2:Prop:=∀ (l:List El) (w W:World) (g n c:Nat) (A:Option Addr) (b:Int) (fs:Bool) (HLw:Hid (Rls w A n l)) (hn:n≤1000000) (HX:Hid (RH w W g)) (T:List Value),Rs 247 [(0,.slice A n c),(1,.int .i64 b),(2,.bool fs),(6,.pointer (some ⟨g,0,none⟩)),(7,.pointer (some ⟨g+1,0,none⟩)),(8,.int .i64 0)] T→(qC1).wp Try.prog (bodyPost Try.prog Try.f17 (fun e w'=>qAX l fs b w e w')) ⟨T.toArray,[]⟩ W
def H3:Prop:=∀ (l:List El) (w W:World) (g n c:Nat) (A:Option Addr) (b:Int) (fs:Bool) (HLw:Hid (Rls w A n l)) (hn:n≤1000000) (HX:Hid (RH w W g)) (T:List Value),Rs 247 [(0,.slice A n c),(1,.int .i64 b),(2,.bool fs),(6,.pointer (some ⟨g,0,none⟩)),(7,.pointer (some ⟨g+1,0,none⟩)),(8,.int .i64 ((hpre l).length:Nat))] T→(qCC).wp Try.prog (bodyPost Try.prog Try.f17 (fun e w'=>qAX l fs b w e w')) ⟨T.toArray,[]⟩ W
def H4:Prop:=∀ (l:List El) (w W:World) (g n c:Nat) (A:Option Addr) (b:Int) (fs:Bool) (HLw:Hid (Rls w A n l)) (hn:n≤1000000) (HX:Hid (RH w W g)) (hne:hnum l≠[]) (T:List Value),Rs 247 [(0,.slice A n c),(1,.int .i64 b),(2,.bool fs),(6,.pointer (some ⟨g,0,none⟩)),(7,.pointer (some ⟨g+1,0,none⟩)),(8,.int .i64 ((hpre l).length:Nat))] T→(qCK).wp Try.prog (bodyPost Try.prog Try.f17 (fun e w'=>qAX l fs b w e w')) ⟨T.toArray,[]⟩ W
def H5:Prop:=∀ (l:List El) (w W:World) (g n c:Nat) (A:Option Addr) (b:Int) (fs:Bool) (HLw:Hid (Rls w A n l)) (hn:n≤1000000) (HX:Hid (RH w W g)) (hne:hnum l≠[]) (T:List Value),Rs 247 [(0,.slice A n c),(1,.int .i64 b),(2,.bool fs),(6,.pointer (some ⟨g,0,none⟩)),(7,.pointer (some ⟨g+1,0,none⟩)),(8,.int .i64 ((hpre l).length:Nat)),(9,.int .i64 ((hpre l).length:Nat))] T→(qCT).wp Try.prog (bodyPost Try.prog Try.f17 (fun e w'=>qAX l fs b w e w')) ⟨T.toArray,[]⟩ W
def H6:Prop:=∀ (l:List El) (w W:World) (g n c:Nat) (A:Option Addr) (b:Int) (fs:Bool) (HLw:Hid (Rls w A n l)) (hn:n≤1000000) (HX:Hid (RH w W g)) (hne:hnum l≠[]) (T:List Value),Rs 247 [(0,.slice A n c),(1,.int .i64 b),(2,.bool fs),(6,.pointer (some ⟨g,0,none⟩)),(7,.pointer (some ⟨g+1,0,none⟩)),(8,.int .i64 ((hpre l).length:Nat)),(9,.int .i64 ((hpre l).length+((hrst l).takeWhile bdy).length:Nat))] T→(qCZ).wp Try.prog (bodyPost Try.prog Try.f17 (fun e w'=>qAX l fs b w e w')) ⟨T.toArray,[]⟩ W
def H7:Prop:=∀ (l:List El) (w W:World) (g n c:Nat) (A:Option Addr) (b:Int) (fs:Bool) (HLw:Hid (Rls w A n l)) (hn:n≤1000000) (HX:Hid (RH w W g)) (hne:hnum l≠[]) (T:List Value),Rs 247 [(0,.slice A n c),(1,.int .i64 b),(2,.bool fs),(6,.pointer (some ⟨g,0,none⟩)),(7,.pointer (some ⟨g+1,0,none⟩)),(8,.int .i64 ((hpre l).length:Nat)),(9,.int .i64 ((hpre l).length+(hnum l).length:Nat))] T→(qDD).wp Try.prog (bodyPost Try.prog Try.f17 (fun e w'=>qAX l fs b w e w')) ⟨T.toArray,[]⟩ W
def H8:Prop:=∀ (l:List El) (w W:World) (g n c:Nat) (A:Option Addr) (b:Int) (fs:Bool) (q:Nat) (HLw:Hid (Rls w A n l)) (hn:n≤1000000) (HX:Hid (RH w W g)) (hne:hnum l≠[]) (HB:Hid (BX W q dhZ 53)) (hq:g+1 < q) (T:List Value),Rs 247 [(0,.slice A n c),(1,.int .i64 b),(2,.bool fs),(6,.pointer (some ⟨g,0,none⟩)),(7,.pointer (some ⟨g+1,0,none⟩)),(8,.int .i64 ((hpre l).length:Nat)),(9,.int .i64 ((hpre l).length+(hnum l).length:Nat)),(10,.pointer (some ⟨q,0,none⟩))] T→(qDN).wp Try.prog (bodyPost Try.prog Try.f17 (fun e w'=>qAX l fs b w e w')) ⟨T.toArray,[]⟩ W
def H9:Prop:=∀ (l:List El) (w W:World) (g n c:Nat) (A:Option Addr) (b:Int) (fs:Bool) (q:Nat) (HLw:Hid (Rls w A n l)) (hn:n≤1000000) (HX:Hid (RH w W g)) (hne:hnum l≠[]) (HB:Hid (BX W q dhZ 53)) (hq:g+1 < q) (T:List Value),Rs 247 [(0,.slice A n c),(1,.int .i64 b),(2,.bool fs),(6,.pointer (some ⟨g,0,none⟩)),(7,.pointer (some ⟨g+1,0,none⟩)),(8,.int .i64 ((hpre l).length:Nat)),(9,.int .i64 ((hpre l).length+(hnum l).length:Nat)),(10,.pointer (some ⟨q,0,none⟩)),(11,.int .i64 0)] T→(qE1).wp Try.prog (bodyPost Try.prog Try.f17 (fun e w'=>qAX l fs b w e w')) ⟨T.toArray,[]⟩ W
def H10:Prop:=∀ (l:List El) (w W:World) (g n c:Nat) (A:Option Addr) (b:Int) (fs:Bool) (q:Nat) (at_ pad:Int) (HLw:Hid (Rls w A n l)) (hn:n≤1000000) (HX:Hid (RH w W g)) (hne:hnum l≠[]) (HB:Hid (BX W q (dhV (.slice none 0 0) (.slice none 0 0) {} at_ pad 0) 53)) (hq:g+1 < q) (HPD:Hid (padZ fs l=((at_,pad),0,0))) (T:List Value),Rs 247 [(0,.slice A n c),(1,.int .i64 b),(2,.bool fs),(6,.pointer (some ⟨g,0,none⟩)),(7,.pointer (some ⟨g+1,0,none⟩)),(8,.int .i64 ((hpre l).length:Nat)),(9,.int .i64 ((hpre l).length+(hnum l).length:Nat)),(10,.pointer (some ⟨q,0,none⟩))] T→(qC6).wp Try.prog (bodyPost Try.prog Try.f17 (fun e w'=>qAX l fs b w e w')) ⟨T.toArray,[]⟩ W
def H11:Prop:=∀ (l:List El) (w W:World) (g n c:Nat) (A:Option Addr) (b:Int) (fs:Bool) (q:Nat) (at_ pad:Int) (HLw:Hid (Rls w A n l)) (hn:n≤1000000) (HX:Hid (RH w W g)) (hne:hnum l≠[]) (HB:Hid (BX W q (dhV (.slice none 0 0) (.slice none 0 0) {} at_ pad 0) 53)) (hq:g+1 < q) (HPD:Hid (padZ fs l=((at_,pad),0,0))) (T:List Value),Rs 247 [(0,.slice A n c),(1,.int .i64 b),(2,.bool fs),(6,.pointer (some ⟨g,0,none⟩)),(7,.pointer (some ⟨g+1,0,none⟩)),(8,.int .i64 ((hpre l).length:Nat)),(9,.int .i64 ((hpre l).length+(hnum l).length:Nat)),(10,.pointer (some ⟨q,0,none⟩)),(14,.slice none 0 0),(15,.slice none 0 0)] T→(qCL).wp Try.prog (bodyPost Try.prog Try.f17 (fun e w'=>qAX l fs b w e w')) ⟨T.toArray,[]⟩ W
def H12:Prop:=∀ (l:List El) (w W:World) (g n c:Nat) (A:Option Addr) (b:Int) (fs:Bool) (q:Nat) (at_ pad:Int) (HLw:Hid (Rls w A n l)) (hn:n≤1000000) (HX:Hid (RH w W g)) (hne:hnum l≠[]) (HB:Hid (BX W q (dhV (.slice none 0 0) (.slice none 0 0) {} at_ pad 0) 53)) (hq:g+1 < q) (HPD:Hid (padZ fs l=((at_,pad),0,0))) (T:List Value),Rs 247 [(0,.slice A n c),(1,.int .i64 b),(2,.bool fs),(6,.pointer (some ⟨g,0,none⟩)),(7,.pointer (some ⟨g+1,0,none⟩)),(8,.int .i64 ((hpre l).length:Nat)),(9,.int .i64 ((hpre l).length+(hnum l).length:Nat)),(10,.pointer (some ⟨q,0,none⟩)),(14,.slice none 0 0),(15,.slice none 0 0),(16,.string ⟨#[]⟩)] T→(qCX).wp Try.prog (bodyPost Try.prog Try.f17 (fun e w'=>qAX l fs b w e w')) ⟨T.toArray,[]⟩ W
def H13:Prop:=∀ (l:List El) (w W:World) (g n c:Nat) (A:Option Addr) (b:Int) (fs:Bool) (q:Nat) (at_ pad:Int) (A1 A2:Option Addr) (n1 c1 n2 c2:Nat) (HLw:Hid (Rls w A n l)) (hn:n≤1000000) (HX:Hid (RH w W g)) (hne:hnum l≠[]) (HB:Hid (BX W q (dhV (.slice none 0 0) (.slice none 0 0) {} at_ pad 0) 53)) (hq:g+1 < q) (HPD:Hid (padZ fs l=((at_,pad),0,0))) (HA1:Hid (Tks W A1 n1 (tksE (hpre l)))) (HA2:Hid (Tks W A2 n2 (tksE (hsuf l)))) (T:List Value),Rs 247 [(0,.slice A n c),(1,.int .i64 b),(2,.bool fs),(6,.pointer (some ⟨g,0,none⟩)),(7,.pointer (some ⟨g+1,0,none⟩)),(8,.int .i64 ((hpre l).length:Nat)),(9,.int .i64 ((hpre l).length+(hnum l).length:Nat)),(10,.pointer (some ⟨q,0,none⟩)),(14,.slice A1 n1 c1),(15,.slice A2 n2 c2),(16,.string (stz (chE (hnum l))))] T→(qDE).wp Try.prog (bodyPost Try.prog Try.f17 (fun e w'=>qAX l fs b w e w')) ⟨T.toArray,[]⟩ W
def H14:Prop:=∀ (l:List El) (w W:World) (g n c:Nat) (A:Option Addr) (b:Int) (fs:Bool) (q:Nat) (at_ pad:Int) (A2:Option Addr) (n2 c2:Nat) (X1:Option Addr) (m1 d1 f:Nat) (HLw:Hid (Rls w A n l)) (hn:n≤1000000) (HX:Hid (RH w W g)) (hne:hnum l≠[]) (HB:Hid (BX W q (dhV (.slice none 0 0) (.slice none 0 0) {} at_ pad 0) 53)) (hq:g+1 < q) (HPD:Hid (padZ fs l=((at_,pad),0,0))) (HA2:Hid (Tks W A2 n2 (tksE (hsuf l)))) (HI1:Hid (Btw W (q+1) f X1 m1 d1 (itms (tksE (hpre l))).1)) (HF:Hid (BX W f #[.int .i64 (itms (tksE (hpre l))).2.1,.int .i64 (itms (tksE (hpre l))).2.2] 29)) (hf:q < f) (T:List Value),Rs 247 [(0,.slice A n c),(1,.int .i64 b),(2,.bool fs),(6,.pointer (some ⟨g,0,none⟩)),(7,.pointer (some ⟨g+1,0,none⟩)),(8,.int .i64 ((hpre l).length:Nat)),(10,.pointer (some ⟨q,0,none⟩)),(15,.slice A2 n2 c2),(16,.string (stz (chE (hnum l)))),(18,.slice X1 m1 d1),(19,.pointer (some ⟨f,0,none⟩))] T→(qDT).wp Try.prog (bodyPost Try.prog Try.f17 (fun e w'=>qAX l fs b w e w')) ⟨T.toArray,[]⟩ W
def H15:Prop:=∀ (l:List El) (w W:World) (g n c:Nat) (A:Option Addr) (b:Int) (fs:Bool) (q:Nat) (at_ pad:Int) (A2:Option Addr) (n2 c2:Nat) (X1:Option Addr) (m1 d1 f:Nat) (HLw:Hid (Rls w A n l)) (hn:n≤1000000) (HX:Hid (RH w W g)) (hne:hnum l≠[]) (HB:Hid (BX W q (dhV (.slice none 0 0) (.slice none 0 0) {} at_ pad 0) 53)) (hq:g+1 < q) (HPD:Hid (padZ fs l=((at_,pad),0,0))) (HA2:Hid (Tks W A2 n2 (tksE (hsuf l)))) (HI1:Hid (Btw W (q+1) f X1 m1 d1 (itms (tksE (hpre l))).1)) (hi1:(itms (tksE (hpre l))).2.1=0) (HF:Hid (BX W f #[.int .i64 (itms (tksE (hpre l))).2.1,.int .i64 (itms (tksE (hpre l))).2.2] 29)) (hf:q < f) (T:List Value),Rs 247 [(0,.slice A n c),(1,.int .i64 b),(2,.bool fs),(6,.pointer (some ⟨g,0,none⟩)),(7,.pointer (some ⟨g+1,0,none⟩)),(8,.int .i64 ((hpre l).length:Nat)),(10,.pointer (some ⟨q,0,none⟩)),(15,.slice A2 n2 c2),(16,.string (stz (chE (hnum l)))),(18,.slice X1 m1 d1),(19,.pointer (some ⟨f,0,none⟩))] T→(qEA).wp Try.prog (bodyPost Try.prog Try.f17 (fun e w'=>qAX l fs b w e w')) ⟨T.toArray,[]⟩ W
def H16:Prop:=∀ (l:List El) (w W:World) (g n c:Nat) (A:Option Addr) (b:Int) (fs:Bool) (q:Nat) (at_ pad:Int) (A2:Option Addr) (n2 c2:Nat) (X1:Option Addr) (m1 d1 f:Nat) (p:Nat) (HLw:Hid (Rls w A n l)) (hn:n≤1000000) (HX:Hid (RH w W g)) (hne:hnum l≠[]) (HB:Hid (BX W q (dhV (.slice none 0 0) (.slice none 0 0) {} at_ pad 0) 53)) (hq:g+1 < q) (HPD:Hid (padZ fs l=((at_,pad),0,0))) (HA2:Hid (Tks W A2 n2 (tksE (hsuf l)))) (HI1:Hid (Btw W (q+1) f X1 m1 d1 (itms (tksE (hpre l))).1)) (hi1:(itms (tksE (hpre l))).2.1=0) (HF:Hid (BX W f #[.int .i64 (itms (tksE (hpre l))).2.1,.int .i64 (itms (tksE (hpre l))).2.2] 29)) (hf:q < f) (HP:Hid (BX W p (patN (numZ (chE (hnum l))).1) 26)) (hp:f < p) (T:List Value),Rs 247 [(0,.slice A n c),(1,.int .i64 b),(2,.bool fs),(6,.pointer (some ⟨g,0,none⟩)),(7,.pointer (some ⟨g+1,0,none⟩)),(8,.int .i64 ((hpre l).length:Nat)),(10,.pointer (some ⟨q,0,none⟩)),(15,.slice A2 n2 c2),(16,.string (stz (chE (hnum l)))),(18,.slice X1 m1 d1),(19,.pointer (some ⟨f,0,none⟩)),(20,.pointer (some ⟨p,0,none⟩)),(21,.int .i64 (((numZ (chE (hnum l))).2:Nat):Int))] T→(qES).wp Try.prog (bodyPost Try.prog Try.f17 (fun e w'=>qAX l fs b w e w')) ⟨T.toArray,[]⟩ W
def H17:Prop:=∀ (l:List El) (w W:World) (g n c:Nat) (A:Option Addr) (b:Int) (fs:Bool) (q:Nat) (at_ pad:Int) (A2:Option Addr) (n2 c2:Nat) (X1:Option Addr) (m1 d1 f:Nat) (p:Nat) (HLw:Hid (Rls w A n l)) (hn:n≤1000000) (HX:Hid (RH w W g)) (hne:hnum l≠[]) (HB:Hid (BX W q (dhV (.slice none 0 0) (.slice none 0 0) {} at_ pad 0) 53)) (hq:g+1 < q) (HPD:Hid (padZ fs l=((at_,pad),0,0))) (HA2:Hid (Tks W A2 n2 (tksE (hsuf l)))) (HI1:Hid (Btw W (q+1) f X1 m1 d1 (itms (tksE (hpre l))).1)) (hi1:(itms (tksE (hpre l))).2.1=0) (HF:Hid (BX W f #[.int .i64 (itms (tksE (hpre l))).2.1,.int .i64 (itms (tksE (hpre l))).2.2] 29)) (hf:q < f) (HP:Hid (BX W p (patN (numZ (chE (hnum l))).1) 26)) (hp:f < p) (hz:(numZ (chE (hnum l))).2=0) (T:List Value),Rs 247 [(0,.slice A n c),(1,.int .i64 b),(2,.bool fs),(6,.pointer (some ⟨g,0,none⟩)),(7,.pointer (some ⟨g+1,0,none⟩)),(10,.pointer (some ⟨q,0,none⟩)),(15,.slice A2 n2 c2),(16,.string (stz (chE (hnum l)))),(18,.slice X1 m1 d1),(19,.pointer (some ⟨f,0,none⟩)),(20,.pointer (some ⟨p,0,none⟩))] T→(qFS).wp Try.prog (bodyPost Try.prog Try.f17 (fun e w'=>qAX l fs b w e w')) ⟨T.toArray,[]⟩ W
def H18:Prop:=∀ (l:List El) (w W:World) (g n c:Nat) (A:Option Addr) (b:Int) (fs:Bool) (q:Nat) (at_ pad:Int) (X1:Option Addr) (m1 d1 f p:Nat) (X2:Option Addr) (m2 d2:Nat) (HLw:Hid (Rls w A n l)) (hn:n≤1000000) (HX:Hid (RH w W g)) (hne:hnum l≠[]) (HB:Hid (BX W q (dhV (.slice none 0 0) (.slice none 0 0) {} at_ pad 0) 53)) (hq:g+1 < q) (HPD:Hid (padZ fs l=((at_,pad),0,0))) (HF:Hid (BX W f #[.int .i64 (itms (tksE (hsuf l))).2.1,.int .i64 (itms (tksE (hsuf l))).2.2] 29)) (HI1:Hid (Btw W (q+1) f X1 m1 d1 (itms (tksE (hpre l))).1)) (hi1:(itms (tksE (hpre l))).2.1=0) (hf:q < f) (HP:Hid (BX W p (patN (numZ (chE (hnum l))).1) 26)) (hp:f < p) (hz:(numZ (chE (hnum l))).2=0) (HI2:Hid (Btw W (q+1) W.heap.size X2 m2 d2 (itms (tksE (hsuf l))).1)) (T:List Value),Rs 247 [(0,.slice A n c),(1,.int .i64 b),(2,.bool fs),(6,.pointer (some ⟨g,0,none⟩)),(7,.pointer (some ⟨g+1,0,none⟩)),(10,.pointer (some ⟨q,0,none⟩)),(16,.string (stz (chE (hnum l)))),(18,.slice X1 m1 d1),(19,.pointer (some ⟨f,0,none⟩)),(20,.pointer (some ⟨p,0,none⟩)),(22,.slice X2 m2 d2)] T→(qG4).wp Try.prog (bodyPost Try.prog Try.f17 (fun e w'=>qAX l fs b w e w')) ⟨T.toArray,[]⟩ W
def H19:Prop:=∀ (l:List El) (w W:World) (g n c:Nat) (A:Option Addr) (b:Int) (fs:Bool) (q:Nat) (at_ pad:Int) (X1:Option Addr) (m1 d1 f p:Nat) (X2:Option Addr) (m2 d2:Nat) (HLw:Hid (Rls w A n l)) (hn:n≤1000000) (HX:Hid (RH w W g)) (hne:hnum l≠[]) (HB:Hid (BX W q (dhV (.slice none 0 0) (.slice none 0 0) {} at_ pad 0) 53)) (hq:g+1 < q) (HPD:Hid (padZ fs l=((at_,pad),0,0))) (HI1:Hid (Btw W (q+1) f X1 m1 d1 (itms (tksE (hpre l))).1)) (hi1:(itms (tksE (hpre l))).2.1=0) (hf:q < f) (HP:Hid (BX W p (patN (numZ (chE (hnum l))).1) 26)) (hp:f < p) (hz:(numZ (chE (hnum l))).2=0) (HI2:Hid (Btw W (q+1) W.heap.size X2 m2 d2 (itms (tksE (hsuf l))).1)) (hi2:(itms (tksE (hsuf l))).2.1=0) (T:List Value),Rs 247 [(0,.slice A n c),(1,.int .i64 b),(2,.bool fs),(6,.pointer (some ⟨g,0,none⟩)),(7,.pointer (some ⟨g+1,0,none⟩)),(10,.pointer (some ⟨q,0,none⟩)),(16,.string (stz (chE (hnum l)))),(18,.slice X1 m1 d1),(20,.pointer (some ⟨p,0,none⟩)),(22,.slice X2 m2 d2)] T→(qHN).wp Try.prog (bodyPost Try.prog Try.f17 (fun e w'=>qAX l fs b w e w')) ⟨T.toArray,[]⟩ W
def H20:Prop:=∀ (l:List El) (w W:World) (g n c:Nat) (A:Option Addr) (b:Int) (fs:Bool) (q:Nat) (at_ pad:Int) (X1:Option Addr) (m1 d1:Nat) (X2:Option Addr) (m2 d2 f:Nat) (HLw:Hid (Rls w A n l)) (hn:n≤1000000) (HX:Hid (RH w W g)) (hZ:Hid (halfZ fs b l=(⟨(itms (tksE (hpre l))).1,(itms (tksE (hsuf l))).1,(numZ (chE (hnum l))).1,at_,pad,(hnum l).length⟩,0,0))) (hq:g+1 < q) (HB:Hid (BX W q (dhV (.slice X1 m1 d1) (.slice X2 m2 d2) (numZ (chE (hnum l))).1 at_ pad (hnum l).length) 53)) (HI1:Hid (Btw W (q+1) f X1 m1 d1 (itms (tksE (hpre l))).1)) (HI2:Hid (Btw W (q+1) f X2 m2 d2 (itms (tksE (hsuf l))).1)) (T:List Value),Rs 247 [(0,.slice A n c),(1,.int .i64 b),(2,.bool fs),(6,.pointer (some ⟨g,0,none⟩)),(7,.pointer (some ⟨g+1,0,none⟩)),(10,.pointer (some ⟨q,0,none⟩))] T→(tlh_20).wp Try.prog (bodyPost Try.prog Try.f17 (fun e w'=>qAX l fs b w e w')) ⟨T.toArray,[]⟩ W
end Go.Proofs.Ytohfadegildnaaa
