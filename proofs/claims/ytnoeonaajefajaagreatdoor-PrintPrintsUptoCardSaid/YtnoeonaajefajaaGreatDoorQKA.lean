import Derived.WalkKit
import Derived.Handy
import Derived.Lib.Hide
import Derived.Below
import Derived.Laws.OwnMore
import Derived.Laws.MakeOwn
import Derived.Deep.AppendLies
import Derived.Deep.Draws
import Derived.Deep.QuietTactic
import Derived.BigQuiet
import Derived.RegionTactic
import Derived.OwnWalk
import Derived.Laws.CopyOwn
import Derived.Maps.AppendAt
import Derived.Lib.MinMax
import Derived.Laws.IdiomStrings
import Derived.Laws.BytesArg
import Derived.Outline
import Derived.WalkSpells
import Derived.WalkLawsBesides
import Derived.Test.YtnoeonaajefajaaGreatDoorRows
import Derived.ProofKit
import Derived.OpenShut
import Derived.ShutString
import Derived.ChangeOld
import Derived.SizedLaws
import Derived.ChangeMaps5
set_option linter.all false
namespace Go.Proofs.YtnoeonaajefajaaGreatDoor
theorem pk:(∀ (a:Act) (d:Tmp) (v:Value),a.put (some d) v={ a with tmps:=a.tmps.setIfInBounds d v })∧(∀ (a:Act) (v:Value),a.put none v=a)∧(∀ (l:List Value) (i:Nat) (a:Value),l.toArray.setIfInBounds i a=(l.set i a).toArray)∧(∀ (l:List Bool) (i:Nat) (a:Bool),l.toArray.setIfInBounds i a=(l.set i a).toArray)∧(∀ (x:Value) (l:List Value) (a:Value),(x :: l).set 0 a=a :: l)∧(∀ (x:Bool) (l:List Bool) (a:Bool),(x :: l).set 0 a=a :: l)∧(∀ (x:Value) (l:List Value) (i:Nat) (a:Value),(x :: l).set (i+1) a=x :: l.set i a)∧(∀ (x:Bool) (l:List Bool) (i:Nat) (a:Bool),(x :: l).set (i+1) a=x :: l.set i a):=
 ⟨fun _ _ _=>rfl,fun _ _=>rfl,fun _ _ _=>List.setIfInBounds_toArray ..,fun _ _ _=>List.setIfInBounds_toArray ..,fun _ _ _=>rfl,fun _ _ _=>rfl,fun _ _ _ _=>rfl,fun _ _ _ _=>rfl⟩
theorem pkA {α:Type} (l:List α) (i:Nat) (a:α):l.toArray.setIfInBounds i a=(l.set i a).toArray:=List.setIfInBounds_toArray ..
theorem pkB {α:Type} (x:α) (l:List α) (a:α):(x :: l).set 0 a=a :: l:=List.set_cons_zero ..
theorem pkC {α:Type} (x:α) (l:List α) (i:Nat) (a:α):(x :: l).set (i+1) a=x :: l.set i a:=List.set_cons_succ ..
open Go.RowKit
theorem qAB (a:Addr) (n:Nat):(a.add n).block=a.block:=by unfold Addr.add; split <;> rfl
theorem qCM (a:Addr) (i j:Nat):(a.add i).add j=a.add (i+j):=by
 unfold Addr.add
 by_cases hi:i=0 <;> by_cases hj:j=0 <;> simp [hi,hj,Nat.add_assoc]
def qB6 (w:World) (B size:Nat) (A:Option Addr) (n:Nat) (xs:List Value):Prop:=
 xs.length=n * size∧(0 < n→∃ ad,A=some ad∧ad.block < B∧∀ j u,xs[j]? = some u→w.cell? (ad.add j)=some u)
section
variable {w w':World} {B B' size n:Nat} {A:Option Addr} {xs:List Value}
theorem qB6.none_:qB6 w B size A 0 []:=⟨by simp,fun h=>absurd h (by omega)⟩
theorem qB6.at_ {k:Nat} (h:qB6 w B 1 A n xs) (hk:k < n):∃ ad u,A=some ad∧ad.block < B∧xs[k]? = some u∧w.cell? (ad.add k)=some u:=by
 obtain ⟨ad,e,hb,hc⟩:=h.2 (by omega)
 have hl:k < xs.length:=by have:=h.1; omega
 exact ⟨ad,xs[k],e,hb,List.getElem?_eq_getElem hl,hc k _ (List.getElem?_eq_getElem hl)⟩
theorem qB6.keep (h:qB6 w B size A n xs) (hk:∀ p:Addr,p.block < B→w'.cell? p=w.cell? p):qB6 w' B size A n xs:=
 ⟨h.1,fun hn=>by
  obtain ⟨ad,e,hb,hc⟩:=h.2 hn;exact ⟨ad,e,hb,fun j u hu=>(hk _ (by rw [qAB]; exact hb)).trans (hc j u hu)⟩⟩
theorem qB6.more (h:qB6 w B size A n xs) (hB:B≤B'):qB6 w B' size A n xs:=
 ⟨h.1,fun hn=>by
  obtain ⟨ad,e,hb,hc⟩:=h.2 hn;exact ⟨ad,e,by omega,hc⟩⟩
theorem qB6.below (h:qB6 w B size A n xs) (hb:Below B w w'):qB6 w' B size A n xs:=h.keep fun _ hp=>hb.cell hp
theorem qB6.of_own {base:Nat} {e:TypeId} {c:Nat} (h:w.ownsRow base e size (.slice A n c) n xs):qB6 w w.heap.size size A n xs:=by
 refine ⟨h.1,fun hn=>?_⟩
 obtain ⟨g,cap,hv,_,hlt⟩:=h.form hn
 have hA:A=some ⟨g,0,none⟩:=by injection hv
 subst hA
 exact ⟨_,rfl,hlt,h.cells (g:=g) rfl⟩
end
section
variable {w w':World} {n:Nat} {A:Option Addr} {xs:List Nat}
end
section
variable {w w':World} {base m c:Nat} {A:Option Addr} {ys:List Nat}
end
theorem _root_.Go.RowKit.Below.of_drewN {B:Nat} {a w:World} (h:Below B a w) (n:Nat):Below B a (w.drewN n):=⟨h.os,h.tape,h.output,h.size,h.block⟩
theorem qAZ {P:Program} {f:FuncId} {args:Array Value} {w:World} {a n:Nat} {v:Value}
 (h:Calls P f args (w.drewN (a+n)) fun e w'=>e=.returned v∧w.drewN (a+n)=w') :
 Calls P f args (w.drewN (a+n)) fun e w''=>e=.returned v∧∃ m,w''=w.drewN (a+m):=
 h.mono fun _ _ ⟨he,hm⟩=>⟨he,n,hm.symm⟩
theorem qEZ {P:Program} {f:FuncId} {args:Array Value} {w:World} {n:Nat} {v:Value}
 (h:Calls P f args (w.drewN n) fun e w'=>e=.returned v∧w.drewN n=w'):Calls P f args (w.drewN n) fun e w''=>e=.returned v∧∃ m,w''=w.drewN m:=
 h.mono fun _ _ ⟨he,hm⟩=>⟨he,n,hm.symm⟩
theorem qC5 {w:World} {base base':Nat} {e:TypeId} {size:Nat} {v:Value} {n:Nat} {xs:List Value} (h:w.ownsRow base e size v n xs) (hb:base'≤base):w.ownsRow base' e size v n xs:=by
 refine ⟨h.1,?_⟩
 rcases h.2 with h' | ⟨g,cap,cur,h1,h2,h3⟩
 · exact .inl h'
 · exact .inr ⟨g,cap,cur,h1,Nat.le_trans hb h2,h3⟩
def u8s (xs:List Nat):List Value:=xs.map fun (x:Nat)=>Value.int .u8 (x:Int)
theorem qJ2 (xs:List Nat):(u8s xs).length=xs.length:=by simp [u8s]
theorem u8s_get (xs:List Nat) (k:Nat):(u8s xs)[k]? = (xs[k]?).map fun (x:Nat)=>Value.int .u8 (x:Int):=by simp [u8s]
theorem u8s_append (xs ys:List Nat):u8s (xs++ys)=u8s xs++u8s ys:=by simp [u8s]
theorem u8_info:(Tryz.prog.info? 5).map (fun i=>(i.zero,i.size,i.bytes))=some (some (.int .u8 0),1,1):=by kernel_rfl
def Bytes (w:World) (A:Option Addr) (n:Nat) (xs:List Nat):Prop:=qB6 w w.heap.size 1 A n (u8s xs)∧n≤1000000000∧∀ x ∈ xs,x < 256
section
variable {w w':World} {n:Nat} {A:Option Addr} {xs:List Nat}
theorem conv_own {base:Nat} {v:Value} (h:w.ownsRow base 5 1 v n (u8s xs)) (hx:∀ x ∈ xs,x < 256) :
 ∃ s:ByteArray,(convert 71 9 v).run Tryz.prog w=.ok (.string s) w∧s.data.toList.map UInt8.toNat=xs:=by
 have hl:xs.length=n:=by have:=h.1; simpa [qJ2] using this
 rcases h.2 with ⟨rfl,hn⟩ | ⟨g,cap,cur,rfl,_⟩
 · refine ⟨ByteArray.empty,run_convert_bytes_nil (P:=Tryz.prog) w 71 5 Tryz.underlying71 Tryz.underlying5 0 0 9 Tryz.underlying9,?_⟩
   obtain rfl:xs=[]:=List.eq_nil_of_length_eq_zero (by omega);rfl
 · have hr:=run_convert_bytes_arg (P:=Tryz.prog) w 71 5 Tryz.underlying71 Tryz.underlying5 g 0 n cap (xs.map fun (x:Nat)=>(x:Int)) (by simpa using hl)
    (fun i hi=>by
     rw [Nat.zero_add,h.cellAt i (by omega),u8s_get];simp [List.getD,List.getElem?_eq_getElem (show i < xs.length by omega)]) 9 Tryz.underlying9
   refine ⟨_,hr,?_⟩;rw [strOfNums_data,List.map_map,List.map_map]
   conv=>rhs; rw [← List.map_id xs]
   refine List.map_congr_left fun x hx'=>?_
   have:=hx x hx';simp only [Function.comp,Int.toNat_natCast,UInt8.toNat_ofNat',id];omega
end
theorem qAJ {w:World} {base:Nat} {e:TypeId} {size:Nat} {v:Value} {n:Nat} {xs:List Value} (h:w.ownsRow base e size v n xs):∃ A c,v=.slice A n c:=by
 rcases h.2 with ⟨rfl,rfl⟩ | ⟨g,cap,cur,rfl,_⟩
 · exact ⟨_,_,rfl⟩
 · exact ⟨_,_,rfl⟩
theorem qHV (W:World) (x:Value) (e:TypeId):∀ j u,[x][j]? = some u→(W.alloc (.cells #[x] e)).cell? ((⟨W.heap.size,0,none⟩:Addr).add j)=some u:=by
 intro j u hu
 rcases j with _ | j
 · rw [show (⟨W.heap.size,0,none⟩:Addr).add 0=⟨W.heap.size,0,none⟩ by simp [Addr.add],World.cell?_alloc_at _ _ _ _ rfl]
   simpa using hu
 · simp at hu
theorem qJW {W w0:World} {ops:Array Oper} {rest:List Oper} {o:Oper} {a:Act} {Q:Exit→Act→World→Prop} (hgd:o.guard=none) (s x:Operand) (t:TypeId)
 (ho:o.op=.call { callee:=.builtin .append,args:=#[s,x],argTypes:=#[t,t] }) (ht:Tryz.prog.underlying t=some (.slice 5))
 (base:Nat) (v:Value) (k:Nat) (xs:List Nat) (hs:a.eval s=v) (hown:W.ownsRow base 5 1 v k (u8s xs)) (E:Int)
 (hx:a.eval x=.slice (some ⟨W.heap.size,0,none⟩) 1 1) (X:Nat) (hE:E=(X:Int)) (hk:k≤100000000000) (hb:Below base w0 W) (hbase:base≤W.heap.size)
 (h:∀ v' w',Hid (w'.ownsRow base 5 1 v' (k+1) (u8s (xs++[X])))→Hid (Below base w0 w')→wpList Tryz.prog ops Q rest (a.put o.dst v') w') :
 wpList Tryz.prog ops Q (o :: rest) a (W.alloc (.cells #[.int .u8 E] 5)):=by
 obtain ⟨i0,hi,hz0,hz1,hz2⟩:=info_parts u8_info
 subst hE
 refine wpList_append_own _ hgd s x t ho base 5 i0 (.int .u8 0) 1 1 ht hi hz0 hz1 hz2 rfl (by decide) v k _ hs (hown.alloc _) ⟨W.heap.size,0,none⟩ 1 1 [.int .u8 (X:Int)] hx rfl (qHV W _ _) ?_ ?_ ?_ ?_ ?_
 · simp [Value.oneCell']
 · unfold maxLen; omega
 · omega
 · simp; omega
 · intro v' w' h1 h2 _
   refine h v' w' ?_ ?_
   · rw [u8s_append]; exact h1
   · refine (hb.alloc hbase _).grown h2 (by simp; omega) fun j hj=>?_
     exact (hown.lt j hj).1
section
variable {s t:ByteArray} {ds es:List Nat}
end
theorem own_kept {w w':World} {base B:Nat} {e:TypeId} {v:Value} {n:Nat} {xs:List Value} (h:w.ownsRow base e 1 v n xs) (hb:Below B w w') (hB:B=w.heap.size):w'.ownsRow base e 1 v n xs:=by
 subst hB
 refine h.kept (row:=none) ⟨hb.os,hb.tape,hb.output,hb.size,fun k hk _=>hb.block k hk⟩ ?_
 cases hv:v.ownBlock <;> simp
def Ours (w:World) (base:Nat) (v:Value) (n:Nat):Prop:=∃ xs,w.ownsRow base 173 1 v n xs
def Rw (n:Nat):List (Nat × Value)→List Value→Prop
 | [],T=>T.length=n
 | p :: r,T=>T[p.1]? = some p.2∧Rw n r T
end Go.Proofs.YtnoeonaajefajaaGreatDoor
set_option maxRecDepth 100000
namespace Go.Proofs.YtnoeonaajefajaaGreatDoor
open Go.ChangeShapes Go.WideShapes Go.ChangeAt Go.RowKit
theorem qJX:ownKnob Tryz.prog.godebug=none:=by kernel_rfl
theorem qHW:laidOutB Tryz.prog=true:=by kernel_rfl
end Go.Proofs.YtnoeonaajefajaaGreatDoor
