/-
  Images: bytes that come in.
-/
import Derived.Test.YtblbiikfipcbcaaGreatDoorIOp
import Derived.Test.YtblbiikfipcbcaaGreatDoorPWc
set_option linter.unusedVariables false
set_option maxRecDepth 20000
namespace Go.Proofs.YtblbiikfipcbcaaGreatDoor
open Go.ChangeShapes Go.WideShapes Go.ChangeAt Go.WideMaps Go.WideElems Go.RowKit

variable {H : Type} {enc : TypeId × Value → H} {w : World} {base : Nat} {sp : Nat → Bool} {held : Bool}

/-- So long a list is weighed. -/
def Wb (t : TypeId) (x : DataW H) (n : Nat) : Prop := n = 0 ∨ ∃ k, k ∈ x.weights Tryz.prog t ∧ n ≤ k

/-- Rows of things that come in. -/
theorem open_rowsb {β : Type} {t e : TypeId} {sz : Nat} (ht : Tryz.prog.underlying t = some (.slice e)) (hc : Tryz.prog.cellsOf e = sz) (hsz : 0 < sz) (hb : 1 ≤ Tryz.prog.bytesOf e) (R : List Value → DataW H → β → Prop) (hR : ∀ {fuel : Nat} {cs : List Value} {x : DataW H × List MemPlace}, DataW.trod enc Tryz.prog w base sp held fuel e cs = some x → ∃ o : β, R cs x.1 o)
    {fuel : Nat} {v : Value} {x : DataW H × List MemPlace} (hf : DataW.trod enc Tryz.prog w base sp held fuel t [v] = some x) :
    ∃ (ds : List β) (a : Option Addr) (cap : Nat), v = .slice a ds.length cap ∧ ds.length ≤ cap ∧ Wb t x.1 ds.length ∧ ∀ (i : Nat) o, ds[i]? = some o → ∃ cs d q off, R cs d o ∧ (∀ k, k ∈ d.weights Tryz.prog e → k ∈ x.1.weights Tryz.prog t) ∧ a = some ⟨q, off, none⟩ ∧ q < w.heap.size ∧ cs.length = sz ∧ ∀ j, j < sz → w.cell? ⟨q, off + i * sz + j, none⟩ = cs[j]? := by
  rcases DataW.trod_slice ht hf with ⟨hcs, _⟩ | ⟨a, l, c, elems, rest, n, _, hcs, hd, _, hl, hm, hel, hget, _⟩
  · simp at hcs
    subst hcs
    exact ⟨[], none, 0, rfl, Nat.le_refl _, .inl rfl, fun i o ho => by simp at ho⟩
  · simp at hcs
    subst hcs
    have hw0 : ∀ d, d ∈ elems.map (·.1) → ∀ k, k ∈ d.weights Tryz.prog e → k ∈ x.1.weights Tryz.prog t := fun d hd' k hk => by
      rw [hd, DataW.weights]
      simp only [ht]
      exact List.mem_cons_of_mem _ (List.mem_append_left _ (gmem_weightsAll hd' hk))
    have hsp : 0 < l → a.spot = none := fun h0l => by
      have h1 := hget 0 h0l
      rw [hc, List.getElem?_eq_getElem (by omega)] at h1
      obtain ⟨cs, hcc, -⟩ := Option.bind_eq_some_iff.1 h1
      have hs := World.cells?_some hcc
      have hcl : cs.length = sz := hs.2.1
      have h0 := hs.2.2 0 (by omega)
      rw [List.getElem?_eq_getElem (by omega)] at h0
      simpa [Addr.add] using World.cell?_spot h0
    obtain ⟨ds, hdl, hds⟩ := list_choice (fun i o => ∃ cs d q off, R cs d o ∧ (∀ k, k ∈ d.weights Tryz.prog e → k ∈ x.1.weights Tryz.prog t) ∧ some a = some ⟨q, off, none⟩ ∧ q < w.heap.size ∧ cs.length = sz ∧ ∀ j, j < sz → w.cell? ⟨q, off + i * sz + j, none⟩ = cs[j]?) l (fun i hi => by
      have h1 := hget i hi
      rw [hc, List.getElem?_eq_getElem (by omega)] at h1
      obtain ⟨cs, hcc, htt⟩ := Option.bind_eq_some_iff.1 h1
      obtain ⟨o, ho⟩ := hR htt
      have hs := World.cells?_some hcc
      obtain ⟨g, off, spot⟩ := a
      have hcl : cs.length = sz := hs.2.1
      have h0 := hs.2.2 0 (by omega)
      have hspot : spot = none := hsp (by omega)
      subst hspot
      simp only [gplus] at h0 hs
      rw [List.getElem?_eq_getElem (by omega)] at h0
      exact ⟨o, cs, (elems[i]'(by omega)).1, g, off, ho, hw0 _ (List.mem_map.2 ⟨_, List.getElem_mem _, rfl⟩), rfl, World.block_lt_of_cell? _ _ h0, hcl, fun j hj => hs.2.2 j (by omega)⟩)
    refine ⟨ds, some a, c, by rw [hdl], by rw [hdl]; exact hl, .inr ⟨(elems.length + rest.length) * Tryz.prog.bytesOf e, ?_, ?_⟩, hds⟩
    · rw [hd, DataW.weights]
      simp only [ht]
      simp
    · rw [hdl, hel]
      exact Nat.le_trans (Nat.le_add_right _ _) (Nat.le_mul_of_pos_right _ hb)

/-- A list of numbers. -/
theorem open_numsb {t e : TypeId} {k : IntKind} (ht : Tryz.prog.underlying t = some (.slice e)) (he : Tryz.prog.underlying e = some (.int k)) (hc : Tryz.prog.cellsOf e = 1) (hb : 1 ≤ Tryz.prog.bytesOf e) {fuel : Nat} {v : Value} {x : DataW H × List MemPlace} (hf : DataW.trod enc Tryz.prog w base sp held fuel t [v] = some x) :
    ∃ l : List Int, Lrd w.heap.size w v k l ∧ (∀ z, z ∈ l → (Lit.int k z).wf = true) ∧ Wb t x.1 l.length := by
  obtain ⟨l, a, cap, h1, h2, h3, h4⟩ := open_rowsb ht hc (by decide) hb (fun cs _ (z : Int) => cs = [.int k z] ∧ (Lit.int k z).wf = true) (fun {fuel cs x} hf' => by
    obtain ⟨z, g0, _, wf⟩ := DataW.trod_int he hf'
    exact ⟨z, g0, wf⟩) hf
  refine ⟨l, ⟨a, cap, h1, h2, fun f z hz => ?_⟩, fun z hz => ?_, h3⟩
  · obtain ⟨cs, d, q, off, ⟨rfl, -⟩, -, e1, e2, -, e3⟩ := h4 f z hz
    have := e3 0 (by decide)
    rw [Nat.mul_one, Nat.add_zero] at this
    exact ⟨q, off, e1, e2, this⟩
  · obtain ⟨i, hi⟩ := List.getElem?_of_mem hz
    obtain ⟨cs, d, q, off, ⟨-, hw⟩, -⟩ := h4 i z hi
    exact hw

/-- Bytes. -/
theorem open_bytes {fuel : Nat} {v : Value} {x : DataW H × List MemPlace} (hf : DataW.trod enc Tryz.prog w base sp held fuel 22 [v] = some x) :
    ∃ bs : List Nat, Lrd w.heap.size w v .u8 (bs.map Int.ofNat) ∧ (∀ z, z ∈ bs → z < 256) ∧ Wb 22 x.1 bs.length := by
  obtain ⟨l, h1, h2, h3⟩ := open_numsb (k := .u8) Tryz.underlying22 Tryz.underlying5 (by kernel_rfl) (by rw [show Tryz.prog.bytesOf 5 = 1 by kernel_rfl]; decide) hf
  have hz : ∀ z, z ∈ l → 0 ≤ z ∧ z < 256 := fun z hz => by
    have := h2 z hz
    simp [Lit.wf, IntKind.min, IntKind.max, IntKind.signed, IntKind.bits] at this
    omega
  have e : (l.map Int.toNat).map Int.ofNat = l := Im.map_ofNat_toNat (fun z h => (hz z h).1)
  refine ⟨l.map Int.toNat, by rw [e]; exact h1, fun z h => ?_, by rw [List.length_map]; exact h3⟩
  obtain ⟨y, hy, rfl⟩ := List.mem_map.1 h
  have := hz y hy
  omega

end Go.Proofs.YtblbiikfipcbcaaGreatDoor
