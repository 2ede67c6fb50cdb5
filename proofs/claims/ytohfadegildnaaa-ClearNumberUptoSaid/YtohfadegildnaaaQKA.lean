import Derived.WalkKit
import Derived.Handy
import Derived.Lib.Hide
import Derived.Below
import Derived.Laws.OwnMore
import Derived.Laws.MakeOwn
import Derived.Deep.AppendLies
import Derived.Deep.Draws
import Derived.Deep.QuietTactic
import Derived.BigQuiet
import Derived.RegionTactic
import Derived.OwnWalk
import Derived.Laws.CopyOwn
import Derived.Maps.AppendAt
import Derived.Lib.MinMax
import Derived.Laws.IdiomStrings
import Derived.Laws.BytesArg
import Derived.Outline
import Derived.WalkSpells
import Derived.WalkLawsBesides
import Derived.Test.YtohfadegildnaaaRows
import Derived.ProofKit
import Derived.OpenShut
import Derived.ShutString
import Derived.ChangeOld
import Derived.SizedLaws
import Derived.ChangeMaps5
set_option linter.all false
namespace Go.Proofs.Ytohfadegildnaaa
theorem pk:(∀ (a:Act) (d:Tmp) (v:Value),a.put (some d) v={ a with tmps:=a.tmps.setIfInBounds d v })∧(∀ (a:Act) (v:Value),a.put none v=a)∧(∀ (l:List Value) (i:Nat) (a:Value),l.toArray.setIfInBounds i a=(l.set i a).toArray)∧(∀ (l:List Bool) (i:Nat) (a:Bool),l.toArray.setIfInBounds i a=(l.set i a).toArray)∧(∀ (x:Value) (l:List Value) (a:Value),(x :: l).set 0 a=a :: l)∧(∀ (x:Bool) (l:List Bool) (a:Bool),(x :: l).set 0 a=a :: l)∧(∀ (x:Value) (l:List Value) (i:Nat) (a:Value),(x :: l).set (i+1) a=x :: l.set i a)∧(∀ (x:Bool) (l:List Bool) (i:Nat) (a:Bool),(x :: l).set (i+1) a=x :: l.set i a):=
 ⟨fun _ _ _=>rfl,fun _ _=>rfl,fun _ _ _=>List.setIfInBounds_toArray ..,fun _ _ _=>List.setIfInBounds_toArray ..,fun _ _ _=>rfl,fun _ _ _=>rfl,fun _ _ _ _=>rfl,fun _ _ _ _=>rfl⟩
theorem pkA {α:Type} (l:List α) (i:Nat) (a:α):l.toArray.setIfInBounds i a=(l.set i a).toArray:=List.setIfInBounds_toArray ..
theorem pkB {α:Type} (x:α) (l:List α) (a:α):(x :: l).set 0 a=a :: l:=List.set_cons_zero ..
theorem pkC {α:Type} (x:α) (l:List α) (i:Nat) (a:α):(x :: l).set (i+1) a=x :: l.set i a:=List.set_cons_succ ..
open Go.RowKit
theorem qA7 (a:Addr) (n:Nat):(a.add n).block=a.block:=by unfold Addr.add; split <;> rfl
theorem qDK (a:Addr) (i j:Nat):(a.add i).add j=a.add (i+j):=by
 unfold Addr.add
 by_cases hi:i=0 <;> by_cases hj:j=0 <;> simp [hi,hj,Nat.add_assoc]
def qAZ (w:World) (B size:Nat) (A:Option Addr) (n:Nat) (xs:List Value):Prop:=
 xs.length=n * size∧(0 < n→∃ ad,A=some ad∧ad.block < B∧∀ j u,xs[j]? = some u→w.cell? (ad.add j)=some u)
section
variable {w w':World} {B B' size n:Nat} {A:Option Addr} {xs:List Value}
theorem qAZ.none_:qAZ w B size A 0 []:=⟨by simp,fun h=>absurd h (by omega)⟩
theorem qAZ.at_ {k:Nat} (h:qAZ w B 1 A n xs) (hk:k < n):∃ ad u,A=some ad∧ad.block < B∧xs[k]? = some u∧w.cell? (ad.add k)=some u:=by
 obtain ⟨ad,e,hb,hc⟩:=h.2 (by omega)
 have hl:k < xs.length:=by have:=h.1; omega
 exact ⟨ad,xs[k],e,hb,List.getElem?_eq_getElem hl,hc k _ (List.getElem?_eq_getElem hl)⟩
theorem qAZ.keep (h:qAZ w B size A n xs) (hk:∀ p:Addr,p.block < B→w'.cell? p=w.cell? p):qAZ w' B size A n xs:=
 ⟨h.1,fun hn=>by
  obtain ⟨ad,e,hb,hc⟩:=h.2 hn;exact ⟨ad,e,hb,fun j u hu=>(hk _ (by rw [qA7]; exact hb)).trans (hc j u hu)⟩⟩
theorem qAZ.more (h:qAZ w B size A n xs) (hB:B≤B'):qAZ w B' size A n xs:=
 ⟨h.1,fun hn=>by
  obtain ⟨ad,e,hb,hc⟩:=h.2 hn;exact ⟨ad,e,by omega,hc⟩⟩
theorem qAZ.below (h:qAZ w B size A n xs) (hb:Below B w w'):qAZ w' B size A n xs:=h.keep fun _ hp=>hb.cell hp
theorem qAZ.of_own {base:Nat} {e:TypeId} {c:Nat} (h:w.ownsRow base e size (.slice A n c) n xs):qAZ w w.heap.size size A n xs:=by
 refine ⟨h.1,fun hn=>?_⟩
 obtain ⟨g,cap,hv,_,hlt⟩:=h.form hn
 have hA:A=some ⟨g,0,none⟩:=by injection hv
 subst hA
 exact ⟨_,rfl,hlt,h.cells (g:=g) rfl⟩
end
section
variable {w w':World} {n:Nat} {A:Option Addr} {xs:List Nat}
end
section
variable {w w':World} {base m c:Nat} {A:Option Addr} {ys:List Nat}
end
theorem _root_.Go.RowKit.Below.of_drewN {B:Nat} {a w:World} (h:Below B a w) (n:Nat):Below B a (w.drewN n):=⟨h.os,h.tape,h.output,h.size,h.block⟩
theorem qDP {P:Program} {f:FuncId} {args:Array Value} {w:World} {a n:Nat} {v:Value}
 (h:Calls P f args (w.drewN (a+n)) fun e w'=>e=.returned v∧w.drewN (a+n)=w') :
 Calls P f args (w.drewN (a+n)) fun e w''=>e=.returned v∧∃ m,w''=w.drewN (a+m):=
 h.mono fun _ _ ⟨he,hm⟩=>⟨he,n,hm.symm⟩
theorem qEG {w:World} {base base':Nat} {e:TypeId} {size:Nat} {v:Value} {n:Nat} {xs:List Value} (h:w.ownsRow base e size v n xs) (hb:base'≤base):w.ownsRow base' e size v n xs:=by
 refine ⟨h.1,?_⟩
 rcases h.2 with h' | ⟨g,cap,cur,h1,h2,h3⟩
 · exact .inl h'
 · exact .inr ⟨g,cap,cur,h1,Nat.le_trans hb h2,h3⟩
theorem qA5 {a b:Bool} (h:a=b):Ending.returned (.bool a)=.returned (.bool b):=by rw [h]
def u8s (xs:List Nat):List Value:=xs.map fun (x:Nat)=>Value.int .u8 (x:Int)
theorem qEH (xs:List Nat):(u8s xs).length=xs.length:=by simp [u8s]
theorem u8s_get (xs:List Nat) (k:Nat):(u8s xs)[k]? = (xs[k]?).map fun (x:Nat)=>Value.int .u8 (x:Int):=by simp [u8s]
theorem u8_info:(Try.prog.info? 5).map (fun i=>(i.zero,i.size,i.bytes))=some (some (.int .u8 0),1,1):=by kernel_rfl
def Bytes (w:World) (A:Option Addr) (n:Nat) (xs:List Nat):Prop:=qAZ w w.heap.size 1 A n (u8s xs)∧n≤1000000000∧∀ x ∈ xs,x < 256
section
variable {w w':World} {n:Nat} {A:Option Addr} {xs:List Nat}
theorem conv_own {base:Nat} {v:Value} (h:w.ownsRow base 5 1 v n (u8s xs)) (hx:∀ x ∈ xs,x < 256) :
 ∃ s:ByteArray,(convert 67 9 v).run Try.prog w=.ok (.string s) w∧s.data.toList.map UInt8.toNat=xs:=by
 have hl:xs.length=n:=by have:=h.1; simpa [qEH] using this
 rcases h.2 with ⟨rfl,hn⟩ | ⟨g,cap,cur,rfl,_⟩
 · refine ⟨ByteArray.empty,run_convert_bytes_nil (P:=Try.prog) w 67 5 Try.underlying67 Try.underlying5 0 0 9 Try.underlying9,?_⟩
   obtain rfl:xs=[]:=List.eq_nil_of_length_eq_zero (by omega);rfl
 · have hr:=run_convert_bytes_arg (P:=Try.prog) w 67 5 Try.underlying67 Try.underlying5 g 0 n cap (xs.map fun (x:Nat)=>(x:Int)) (by simpa using hl)
    (fun i hi=>by
     rw [Nat.zero_add,h.cellAt i (by omega),u8s_get];simp [List.getD,List.getElem?_eq_getElem (show i < xs.length by omega)]) 9 Try.underlying9
   refine ⟨_,hr,?_⟩;rw [strOfNums_data,List.map_map,List.map_map]
   conv=>rhs; rw [← List.map_id xs]
   refine List.map_congr_left fun x hx'=>?_
   have:=hx x hx';simp only [Function.comp,Int.toNat_natCast,UInt8.toNat_ofNat',id];omega
end
theorem qAN {w:World} {base:Nat} {e:TypeId} {size:Nat} {v:Value} {n:Nat} {xs:List Value} (h:w.ownsRow base e size v n xs):∃ A c,v=.slice A n c:=by
 rcases h.2 with ⟨rfl,rfl⟩ | ⟨g,cap,cur,rfl,_⟩
 · exact ⟨_,_,rfl⟩
 · exact ⟨_,_,rfl⟩
theorem qHA (W:World) (x:Value) (e:TypeId):∀ j u,[x][j]? = some u→(W.alloc (.cells #[x] e)).cell? ((⟨W.heap.size,0,none⟩:Addr).add j)=some u:=by
 intro j u hu
 rcases j with _ | j
 · rw [show (⟨W.heap.size,0,none⟩:Addr).add 0=⟨W.heap.size,0,none⟩ by simp [Addr.add],World.cell?_alloc_at _ _ _ _ rfl]
   simpa using hu
 · simp at hu
section
variable {s t:ByteArray} {ds es:List Nat}
end
theorem own_kept {w w':World} {base B:Nat} {e:TypeId} {v:Value} {n:Nat} {xs:List Value} (h:w.ownsRow base e 1 v n xs) (hb:Below B w w') (hB:B=w.heap.size):w'.ownsRow base e 1 v n xs:=by
 subst hB
 refine h.kept (row:=none) ⟨hb.os,hb.tape,hb.output,hb.size,fun k hk _=>hb.block k hk⟩ ?_
 cases hv:v.ownBlock <;> simp
def Ours (w:World) (base:Nat) (v:Value) (n:Nat):Prop:=∃ xs,w.ownsRow base 106 1 v n xs
def Rw (n:Nat):List (Nat × Value)→List Value→Prop
 | [],T=>T.length=n
 | p :: r,T=>T[p.1]? = some p.2∧Rw n r T
end Go.Proofs.Ytohfadegildnaaa
set_option maxRecDepth 100000
namespace Go.Proofs.Ytohfadegildnaaa
open Go.ChangeShapes Go.WideShapes Go.ChangeAt Go.RowKit
theorem qGC:ownKnob Try.prog.godebug=none:=by kernel_rfl
theorem qBQ:laidOutB Try.prog=true:=by kernel_rfl
end Go.Proofs.Ytohfadegildnaaa
