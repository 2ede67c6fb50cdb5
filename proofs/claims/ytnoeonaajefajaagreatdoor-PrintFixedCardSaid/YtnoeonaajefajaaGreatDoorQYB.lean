import Derived.Deep.DeepCutAuto
import Derived.Shelf.Strings.BuilderF
import Derived.Lib.UnsafeStr
import Derived.Lib.RuneBytes
import Derived.Laws.Externs
import Derived.Test.YtnoeonaajefajaaGreatDoorQMB
set_option linter.all false
set_option maxRecDepth 100000
namespace Go.Proofs.YtnoeonaajefajaaGreatDoor
open Go.RowKit
open Lib (hid)
structure Bld (w:World) (b:Nat) (p v:Value) (l:List Nat):Prop where
 bx:BX w b #[p,v] 164
 own:w.ownsRow (b+1) 5 1 v l.length (u8s l)
theorem bld_info:(Tryz.prog.info? 164).map (·.size)=some 2:=by kernel_rfl
theorem bld_lies:liesAt Tryz.prog Tryz.prog.depth 164 (2 / Tryz.prog.cellsOf 164) 0 164 1=true:=by kernel_rfl
set_option maxHeartbeats 2000000 in
theorem copyCheck0 (b:Nat) (v:Value) (l:List Nat) (w:World) (h:Bld w b (.pointer none) v l):Calls Tryz.prog 195 #[.pointer (some ⟨b,0,none⟩)] w fun e w'=>
 e=.returned (.tuple #[])∧w'=w.setCell ⟨b,0,none⟩ (.pointer (some ⟨b,0,none⟩)):=by
 obtain ⟨j,hj,hjs⟩:=Option.map_eq_some_iff.1 bld_info
 have d0:=h.bx.c 0
 have f0:=h.bx.fr 0
 have hsh:w.shape? b=some (164,2):=by simp [World.shape?,show w.heap[b]? = _ from h.bx]
 clear h
 go_enter Tryz.func195,Tryz.ntmps195
 go_wp2
 rw [Lib.run_to_unsafe w ⟨b,0,none⟩ Tryz.underlying162 Tryz.underlying257 hj (by rw [hjs]; decide) hsh (Nat.zero_lt_succ 1)]
 simp only [Result.andThen]
 rw [Oper.upon_value]
 go_wp2
 rw [run_callFunc_extern Tryz.func248 (by kernel_rfl) (by kernel_rfl) (by kernel_rfl) (e:=Extern.AbiNoEscape.same) (by kernel_rfl)]
 rw [Lib.run_noEscape]
 simp only [Result.andThen]
 rw [Oper.upon_value]
 go_wp2
 rw [Lib.run_from_unsafe w ⟨b,0,none⟩ Tryz.underlying257 Tryz.underlying162 hj hsh bld_lies]
 simp only [Result.andThen]
 rw [Oper.upon_value]
 go_wp2
 go_end0
 exact ⟨rfl,rfl⟩
set_option maxHeartbeats 2000000 in
theorem copyCheck1 (b:Nat) (v:Value) (l:List Nat) (w:World) (h:Bld w b (.pointer (some ⟨b,0,none⟩)) v l):Calls Tryz.prog 195 #[.pointer (some ⟨b,0,none⟩)] w fun e w'=>
 e=.returned (.tuple #[])∧w'=w:=by
 obtain ⟨j,hj,hjs⟩:=Option.map_eq_some_iff.1 bld_info
 have d0:=h.bx.c 0
 clear h
 go_enter Tryz.func195,Tryz.ntmps195
 go_wp2
 rw [Lib.run_neq_ptr_same w _ Tryz.underlying162 hj]
 go_wp2
 go_end0
 exact ⟨rfl,rfl⟩
theorem copyCheck_c (b:Nat) (p v:Value) (l:List Nat) (w:World) (hp:p=.pointer none∨p=.pointer (some ⟨b,0,none⟩)) (h:Bld w b p v l):Calls Tryz.prog 195 #[.pointer (some ⟨b,0,none⟩)] w fun e w'=>
 e=.returned (.tuple #[])∧Hid (Bld w' b (.pointer (some ⟨b,0,none⟩)) v l)∧Hid (Below b w w'):=by
 rcases hp with rfl | rfl
 · refine (copyCheck0 b v l w h).mono ?_
   rintro e w' ⟨rfl,rfl⟩;exact ⟨rfl,hid ⟨heap_setCell_same w b 0 _ _ _ h.bx,qAH h.own (p:=⟨b,0,none⟩) (Nat.lt_succ_self b) _⟩,hid ((Below.refl b w).setCell (p:=⟨b,0,none⟩) (Nat.le_refl _) _)⟩
 · refine (copyCheck1 b v l w h).mono ?_
   rintro e w' ⟨rfl,rfl⟩;exact ⟨rfl,hid h,hid (Below.refl _ _)⟩
end Go.Proofs.YtnoeonaajefajaaGreatDoor
