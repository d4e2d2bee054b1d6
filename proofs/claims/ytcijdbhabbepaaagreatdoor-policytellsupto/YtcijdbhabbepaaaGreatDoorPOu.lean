/-
  What comes in, of a bounded bulk.
-/
import Derived.Test.YtcijdbhabbepaaaGreatDoorPOq
set_option linter.unusedVariables false
set_option maxRecDepth 20000
namespace Go.Proofs.YtcijdbhabbepaaaGreatDoor.Po
open Go.ChangeShapes Go.WideShapes Go.ChangeAt Go.RowKit

theorem bulk_one {H : Type} (d : DataW H) : 1 ≤ Rows.uptoBulk d := by
  cases d with
  | lit l => cases l <;> simp [Rows.uptoBulk]
  | _ => simp [Rows.uptoBulk]

theorem bulk_len {H : Type} : ∀ l : List (DataW H), l.length ≤ Rows.uptoBulkAll l
  | [] => by simp
  | d :: l => by
    have h1 := bulk_one d
    have h2 := bulk_len l
    simp only [Rows.uptoBulkAll, List.length_cons]
    omega

theorem bulk_slice {H : Type} (es ss : List (DataW H)) : es.length ≤ Rows.uptoBulk (.slice es ss) := by
  have h1 := bulk_len es
  simp only [Rows.uptoBulk]
  omega

theorem bulk_part {H : Type} {d : DataW H} {l : List (DataW H)} (h : d ∈ l) : Rows.uptoBulk d ≤ Rows.uptoBulkAll l := by
  induction l with
  | nil => cases h
  | cons x r ih =>
    simp only [Rows.uptoBulkAll]
    cases List.mem_cons.1 h with
    | inl e => subst e; omega
    | inr e => have := ih e; omega

theorem open_ask_upto {H : Type} {enc : TypeId × Value → H} {w : World} {sp : Nat → Bool} {held : Bool} {r : Reach} {b0 : Nat} {v : Value} {d : DataW H} {p : List MemPlace}
    (hv' : Value.okWide Tryz.prog w r b0 26 v) (h : DataW.Trod enc Tryz.prog w 0 sp held 26 v d p) : ∃ x : Ask, v = askv x ∧ AskIn w x ∧ x.L.length ≤ Rows.uptoBulk d := by
  obtain ⟨cs, rfl, hsz⟩ := okWide_struct Tryz.underlying26 hv'
  obtain ⟨l⟩ := cs
  obtain ⟨c0, c1, c2, c3, c4, c5, c6, c7, c8, c9, c10, c11, c12, c13, c14, c15, c16, c17, rfl⟩ := list18 (hsz.trans ccA)
  obtain ⟨base, hbase⟩ : ∃ b : Nat, b = 0 := ⟨_, rfl⟩
  rw [← hbase] at h
  obtain ⟨fuel, hf⟩ := h
  obtain ⟨xs, n, _, hx, _, hlen, hf'⟩ := DataW.trod_struct Tryz.underlying26 hf
  have key : ∀ i, i < 5 → ∃ y, xs[i]? = some y := fun i hi => ⟨_, List.getElem?_eq_getElem (by rw [hlen]; exact hi)⟩
  have fc : DataW.trod enc Tryz.prog w base sp held n 23 [c0, c1, c2, c3, c4, c5, c6, c7, c8, c9, c10, c11, c12, c13] = xs[0]? := by simpa [Value.cells, ccC] using hf' 0 _ rfl
  obtain ⟨yc, ec⟩ := key 0 (by decide)
  rw [ec] at fc
  obtain ⟨c, hc⟩ := cfg_cells fc
  simp only [List.cons.injEq, and_true] at hc
  obtain ⟨rfl, rfl, rfl, rfl, rfl, rfl, rfl, rfl, rfl, rfl, rfl, rfl, rfl, rfl⟩ := hc
  have f14 : DataW.trod enc Tryz.prog w base sp held n 3 [c14] = xs[1]? := by simpa [Value.cells, cc3] using hf' 1 _ rfl
  obtain ⟨y14, e14⟩ := key 1 (by decide)
  rw [e14] at f14
  obtain ⟨z14, g14, _, w14⟩ := DataW.trod_int Tryz.underlying3 f14
  simp only [List.cons.injEq, and_true] at g14
  subst g14
  have f15 : DataW.trod enc Tryz.prog w base sp held n 3 [c15] = xs[2]? := by simpa [Value.cells, cc3] using hf' 2 _ rfl
  obtain ⟨y15, e15⟩ := key 2 (by decide)
  rw [e15] at f15
  obtain ⟨z15, g15, _, w15⟩ := DataW.trod_int Tryz.underlying3 f15
  simp only [List.cons.injEq, and_true] at g15
  subst g15
  have f16 : DataW.trod enc Tryz.prog w base sp held n 3 [c16] = xs[3]? := by simpa [Value.cells, cc3] using hf' 3 _ rfl
  obtain ⟨y16, e16⟩ := key 3 (by decide)
  rw [e16] at f16
  obtain ⟨z16, g16, _, w16⟩ := DataW.trod_int Tryz.underlying3 f16
  simp only [List.cons.injEq, and_true] at g16
  subst g16
  have fv : DataW.trod enc Tryz.prog w base sp held n 24 [c17] = xs[4]? := by simpa [Value.cells, ccVs] using hf' 4 _ rfl
  obtain ⟨yv, ev⟩ := key 4 (by decide)
  rw [ev, hbase] at fv
  obtain ⟨a, len, cap, L, rfl, rfl, hV, hsl, hm⟩ := open_views fv
  refine ⟨⟨c, z14, z15, z16, a, cap, L⟩, rfl, ⟨(wf64 w16).2, hV, hm⟩, ?_⟩
  show L.length ≤ _
  simp only [Prod.mk.injEq] at hx
  rw [hx.1]
  have hmem : yv.1 ∈ xs.map (·.1) := List.mem_map.2 ⟨yv, List.mem_of_getElem? ev, rfl⟩
  have h1 := bulk_part hmem
  have h2 : Rows.uptoBulk (.agg (xs.map (·.1))) = Rows.uptoBulkAll (xs.map (·.1)) + 1 := by simp [Rows.uptoBulk]
  rcases hsl with e | ⟨es, ss, e, he⟩
  · omega
  · have h3 := bulk_slice es ss
    rw [← e] at h3
    omega

end Go.Proofs.YtcijdbhabbepaaaGreatDoor.Po
