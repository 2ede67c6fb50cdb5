import Derived.WalkKit
import Derived.Test.YtohfadegildnaaaRows
set_option linter.all false
namespace Go.Proofs.Ytohfadegildnaaa
open Go.RowKit
def Rs (n:Nat):List (Nat × Value)→List Value→Prop
 | [],T=>T.length=n
 | (i,v) :: r,T=>T[i]? = some v∧Rs n r T
def mskS (n:Nat):List (Nat × Value)→List (Option Value)
 | []=>List.replicate n none
 | (i,v) :: r=>(mskS n r).set i (some v)
def Fs:List (Option Value)→(List Value→Prop)→Prop
 | [],P=>P []
 | some v :: m,P=>Fs m fun l=>P (v :: l)
 | none :: m,P=>∀ z,Fs m fun l=>P (z :: l)
theorem Fs.at:∀ {m:List (Option Value)} {P:List Value→Prop} {T:List Value},Fs m P→T.length=m.length→(∀ (i:Nat) v,m[i]? = some (some v)→T[i]? = some v)→P T
 | [],P,T,h,hl,hv=>by
  obtain rfl:=List.eq_nil_of_length_eq_zero hl;exact h
 | some v :: m,P,T,h,hl,hv=>by
  cases T with
  | nil=>cases hl
  | cons t T=>
   have h0:=hv 0 v rfl;obtain rfl:t=v:=Option.some.inj h0;exact Fs.at (P:=fun l=>P (t :: l)) h (Nat.succ.inj hl) fun i v hi=>hv (i+1) v hi
 | none :: m,P,T,h,hl,hv=>by
  cases T with
  | nil=>cases hl
  | cons t T=>exact Fs.at (P:=fun l=>P (t :: l)) (h t) (Nat.succ.inj hl) fun i v hi=>hv (i+1) v hi
theorem mskS_len (n:Nat):∀ ps,(mskS n ps).length=n
 | []=>List.length_replicate
 | (i,v) :: r=>by rw [mskS,List.length_set]; exact mskS_len n r
theorem Rs.at {n:Nat}:∀ {ps:List (Nat × Value)} {T:List Value},Rs n ps T→T.length=n∧∀ (i:Nat) v,(mskS n ps)[i]? = some (some v)→T[i]? = some v
 | [],T,h=>⟨h,fun i v hi=>by
  rw [mskS,List.getElem?_replicate] at hi
  split at hi <;> cases hi⟩
 | (j,u) :: r,T,h=>⟨(Rs.at h.2).1,fun i v hi=>by
  rw [mskS,List.getElem?_set] at hi
  split at hi
  · next e=>
    subst e
    split at hi
    · cases hi; exact h.1
    · cases hi
  · exact (Rs.at h.2).2 i v hi⟩
theorem Rs.lay {n:Nat} {ps:List (Nat × Value)} {P:List Value→Prop} (k:Fs (mskS n ps) P) (T:List Value) (h:Rs n ps T):P T:=
 Fs.at k ((Rs.at h).1.trans (mskS_len n ps).symm) (Rs.at h).2
end Go.Proofs.Ytohfadegildnaaa
