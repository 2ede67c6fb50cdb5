import Derived.Deep.Strs
import Derived.Deep.Slices
import Derived.Test.YtmeaiaecmmglnaaGreatDoorKA
import Derived.Test.YtmeaiaecmmglnaaGreatDoorMA
import Derived.Test.YtmeaiaecmmglnaaGreatDoorMB
set_option linter.all false
set_option maxRecDepth 100000
namespace Go.Proofs.YtmeaiaecmmglnaaGreatDoor
open Go.ChangeShapes Go.WideShapes Go.ChangeAt Go.RowKit Go.Deep
theorem bytesItm:Tryz.prog.bytesOf 53=16:=by kernel_rfl
theorem cellsItm:Tryz.prog.cellsOf 53=2:=by kernel_rfl
theorem cellsIntI:Tryz.prog.cellsOf 3=1:=by kernel_rfl
theorem itm_open {H:Type} {enc:TypeId × Value→H} {W:World} {base:Nat} {sp:Nat→Bool} {hd:Bool} {fuel:Nat} {cs:List Value} {x:DataW H × List MemPlace}
 (h:DataW.trod enc Tryz.prog W base sp hd fuel 53 cs=some x):∃ i:Itm,cs=itmV i∧RI i:=by
 obtain ⟨y0,y1,n,_,hl,h0,h1⟩:=trod_struct2 Tryz.underlying53 h
 rw [cellsItm] at hl
 match cs,hl with
 | [v0,v1],_=>
  have h0':DataW.trod enc Tryz.prog W base sp hd n 3 ([v0,v1].take (Tryz.prog.cellsOf 3))=some y0:=h0;have h1':DataW.trod enc Tryz.prog W base sp hd n 21 ([v1].take (Tryz.prog.cellsOf 21))=some y1:=h1;rw [cellsIntI] at h0';rw [cellsI32] at h1';obtain ⟨p,e0,_,hp⟩:=DataW.trod_int Tryz.underlying3 h0';obtain ⟨r,e1,_,hr⟩:=DataW.trod_int Tryz.underlying21 h1'
  cases e0
  cases e1
  exact ⟨(p,r),rfl,i64_of_wf hp,qL1 hr⟩
theorem qGV {α:Type} (f:Nat→List α) (hf:∀ i,(f i).length=2):∀ (n:Nat),((List.range n).flatMap f).length=n * 2∧∀ j,j < n * 2→((List.range n).flatMap f)[j]? = (f (j / 2))[j % 2]?:=by
 intro n
 induction n with
 | zero=>exact ⟨rfl,fun j hj=>absurd hj (by omega)⟩
 | succ n ih=>
  have e:(List.range (n+1)).flatMap f=(List.range n).flatMap f++f n:=by rw [List.range_succ,List.flatMap_append]; simp
  rw [e,List.length_append,hf,ih.1];refine ⟨by omega,fun j hj=>?_⟩
  by_cases h:j < n * 2
  · rw [List.getElem?_append_left (by rw [ih.1]; exact h),ih.2 j h]
  · rw [List.getElem?_append_right (by rw [ih.1]; omega),ih.1,show j / 2=n by omega,show j % 2=j - n * 2 by omega]
theorem qHF {H:Type} {enc:TypeId × Value→H} {W:World} {a:Option Addr} {len cap:Nat} {d:DataW H} {p:List MemPlace} {ts:List TypeId} {ds:List (DataW H)} {j:Nat}
 (h:DataW.Trod enc Tryz.prog W 0 (fun _=>true) true 23 (.slice a len cap) d p) (hsz:(DataW.weightsEach Tryz.prog ts ds).all (·≤reachBytes)=true)
 (ht:ts[j]? = some 23) (hd:ds[j]? = some d):∃ xs,Its W a len xs:=by
 obtain ⟨fuel,hf⟩:=h
 rcases open_slice Tryz.underlying23 hf with ⟨hcs,_⟩ | ⟨x,l,c,m,n,D,Pl,hcs,_,hl,hm,hmm,hx,hi⟩
 · simp [Value.cells] at hcs
   obtain ⟨rfl,rfl,rfl⟩:=hcs;exact ⟨[],qHU W⟩
 · simp [Value.cells] at hcs
   obtain ⟨rfl,rfl,rfl⟩:=hcs;simp only [if_true] at hmm;subst hmm;simp only [Prod.mk.injEq] at hx;obtain ⟨rfl,_⟩:=hx;have hr:=sized_slice hsz ht hd Tryz.underlying23;rw [bytesItm] at hr;simp only [List.length_map,List.length_range] at hr;rw [cellsItm] at hi;have hitm:∀ i,i < len→∃ t:Itm,RI t∧∀ k,k < 2→W.cell? (x.add (i * 2+k))=(itmV t)[k]?:=by
    intro i hil;obtain ⟨cs',h1,h2⟩:=hi i (by omega);obtain ⟨_,_,h3⟩:=World.cells?_some h1;obtain ⟨t,rfl,hR⟩:=itm_open h2;exact ⟨t,hR,fun k hk=>by rw [← qBY]; exact h3 k hk⟩
   have hch:∃ f:Nat→Itm,∀ i,i < len→RI (f i)∧∀ k,k < 2→W.cell? (x.add (i * 2+k))=(itmV (f i))[k]?:=
    ⟨fun i=>if hil:i < len then (hitm i hil).choose else (0,0),fun i hil=>by dsimp only; rw [dif_pos hil]; exact (hitm i hil).choose_spec⟩
   obtain ⟨f,hff⟩:=hch;have hfm:=qGV (fun i=>itmV (f i)) (fun _=>rfl) len;have hval:itsV ((List.range len).map f)=(List.range len).flatMap (fun i=>itmV (f i)):=by rw [itsV,List.flatMap_map]
   refine ⟨(List.range len).map f,⟨by rw [hval,hfm.1],fun h0=>⟨x,rfl,?_,?_⟩⟩,by unfold reachBytes at hr; omega,?_⟩
   · have h1:=(hff 0 h0).2 0 (by omega)
     have:=World.block_lt_of_cell? W _ h1
     rwa [qA8] at this
   · intro j u hu
     rw [hval] at hu;have hjl:j < len * 2:=by
      have:=(List.getElem?_eq_some_iff.1 hu).1;rw [hfm.1] at this;exact this
     rw [hfm.2 j hjl] at hu;have h1:=(hff (j / 2) (by omega)).2 (j % 2) (by omega);rw [show j / 2 * 2+j % 2=j by omega] at h1;rw [h1]; exact hu
   · intro t ht'
     obtain ⟨i,hi',rfl⟩:=List.mem_map.1 ht';exact (hff i (List.mem_range.1 hi')).1
end Go.Proofs.YtmeaiaecmmglnaaGreatDoor
