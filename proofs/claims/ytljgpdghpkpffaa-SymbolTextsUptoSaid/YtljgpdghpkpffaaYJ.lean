/-
  YJ: symbols that came in, opened.
-/
import Derived.Test.YtljgpdghpkpffaaYI
import Derived.Test.YtljgpdghpkpffaaYG
import Derived.Test.YtljgpdghpkpffaaVK
set_option maxRecDepth 100000
namespace Go.Proofs.Ytljgpdghpkpffaa
open Go.RowKit Go.ChangeShapes Go.WideShapes Go.ChangeAt Go.Deep
theorem array9 {α : Type} {cs : Array α} (h : cs.size = 9) : ∃ x0 x1 x2 x3 x4 x5 x6 x7 x8, cs = #[x0, x1, x2, x3, x4, x5, x6, x7, x8] := by
  obtain ⟨l⟩ := cs
  match l, h with
  | [x0, x1, x2, x3, x4, x5, x6, x7, x8], _ => exact ⟨x0, x1, x2, x3, x4, x5, x6, x7, x8, rfl⟩
theorem list9 {α : Type} {cs : List α} (h : cs.length = 9) : ∃ x0 x1 x2 x3 x4 x5 x6 x7 x8, cs = [x0, x1, x2, x3, x4, x5, x6, x7, x8] := by
  match cs, h with
  | [x0, x1, x2, x3, x4, x5, x6, x7, x8], _ => exact ⟨x0, x1, x2, x3, x4, x5, x6, x7, x8, rfl⟩
theorem str_field {H : Type} {enc : TypeId × Value → H} {W : World} {c : Value} {n : Nat} {y : DataW H × List MemPlace}
    (h : DataW.trod enc Try.prog W 0 (fun _ => true) true n 9 [c] = some y) : ∃ s : ByteArray, c = .string s ∧ y.1 = .lit (.string s.data.toList) := by
  obtain ⟨s, es, rfl, _⟩ := DataW.trod_string Try.underlying9 h
  simp at es
  exact ⟨s, es, rfl⟩
theorem open_sym {H : Type} {enc : TypeId × Value → H} {W : World} {b0 : Nat} {r : Reach} {v : Value} {dd : DataW H} {p : List MemPlace}
    (hv : Value.okWide Try.prog W r b0 23 v) (h : DataW.Trod enc Try.prog W 0 (fun _ => true) true 23 v dd p) :
    ∃ z d g mi pl pc pm cu e, v = .agg #[.int .i32 z, .string d, .string g, .string mi, .string pl, .string pc, .string pm, .string cu, .string e] ∧ (-2147483648 ≤ z ∧ z ≤ 2147483647) ∧
      ∃ l0 : DataW H, dd = .agg [l0, .lit (.string d.data.toList), .lit (.string g.data.toList), .lit (.string mi.data.toList), .lit (.string pl.data.toList), .lit (.string pc.data.toList), .lit (.string pm.data.toList), .lit (.string cu.data.toList), .lit (.string e.data.toList)] := by
  obtain ⟨cs, xs, n, rfl, hcz, rfl, hlen, hk⟩ := open_flat Try.underlying23 (by kernel_rfl) hv h
  obtain ⟨x0, x1, x2, x3, x4, x5, x6, x7, x8, rfl⟩ := array9 (hcz.trans (by kernel_rfl))
  obtain ⟨y0, y1, y2, y3, y4, y5, y6, y7, y8, rfl⟩ := list9 (hlen.trans (by kernel_rfl))
  obtain ⟨z0, i0, k0⟩ := hk 0 _ x0 rfl rfl
  obtain ⟨z1, i1, k1⟩ := hk 1 _ x1 rfl rfl
  obtain rfl : y1 = z1 := Option.some.inj i1
  obtain ⟨s1, rfl, e1⟩ := str_field k1
  obtain ⟨z2, i2, k2⟩ := hk 2 _ x2 rfl rfl
  obtain rfl : y2 = z2 := Option.some.inj i2
  obtain ⟨s2, rfl, e2⟩ := str_field k2
  obtain ⟨z3, i3, k3⟩ := hk 3 _ x3 rfl rfl
  obtain rfl : y3 = z3 := Option.some.inj i3
  obtain ⟨s3, rfl, e3⟩ := str_field k3
  obtain ⟨z4, i4, k4⟩ := hk 4 _ x4 rfl rfl
  obtain rfl : y4 = z4 := Option.some.inj i4
  obtain ⟨s4, rfl, e4⟩ := str_field k4
  obtain ⟨z5, i5, k5⟩ := hk 5 _ x5 rfl rfl
  obtain rfl : y5 = z5 := Option.some.inj i5
  obtain ⟨s5, rfl, e5⟩ := str_field k5
  obtain ⟨z6, i6, k6⟩ := hk 6 _ x6 rfl rfl
  obtain rfl : y6 = z6 := Option.some.inj i6
  obtain ⟨s6, rfl, e6⟩ := str_field k6
  obtain ⟨z7, i7, k7⟩ := hk 7 _ x7 rfl rfl
  obtain rfl : y7 = z7 := Option.some.inj i7
  obtain ⟨s7, rfl, e7⟩ := str_field k7
  obtain ⟨z8, i8, k8⟩ := hk 8 _ x8 rfl rfl
  obtain rfl : y8 = z8 := Option.some.inj i8
  obtain ⟨s8, rfl, e8⟩ := str_field k8
  obtain ⟨z, ez, rfl, wz⟩ := DataW.trod_int Try.underlying21 k0
  simp at ez
  subst ez
  exact ⟨z, s1, s2, s3, s4, s5, s6, s7, s8, rfl, i32_range wz, y0.1, by simp only [List.map_cons, List.map_nil, e1, e2, e3, e4, e5, e6, e7, e8]⟩
theorem its_nilc {H : Type} {enc : TypeId × Value → H} {W : World} {a : Option Addr} {len cap : Nat} {d : DataW H} {p : List MemPlace}
    (h : DataW.Trod enc Try.prog W 0 (fun _ => true) true 27 (.slice a len cap) d p) : a = none → len = 0 ∧ cap = 0 := by
  obtain ⟨fuel, hf⟩ := h
  rcases open_slice Try.underlying27 hf with ⟨hcs, _⟩ | ⟨x, l, c, m, n, D, Pl, hcs, _, hl, hm, hmm, hx, hi⟩
  · simp [Value.cells] at hcs
    obtain ⟨rfl, rfl, rfl⟩ := hcs
    exact fun _ => ⟨rfl, rfl⟩
  · simp [Value.cells] at hcs
    obtain ⟨rfl, rfl, rfl⟩ := hcs
    exact fun h => by cases h
end Go.Proofs.Ytljgpdghpkpffaa
