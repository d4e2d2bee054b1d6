/-
  Images: finalsMayBe.
-/
import Derived.Test.YtckcdahjajmddaaPIg
import Derived.Deep.RegionHeld3
set_option linter.unusedVariables false
set_option maxRecDepth 20000
namespace Go.Proofs.Ytckcdahjajmddaa
open Go.RowKit Go.Shelf

theorem Try.infoBool : (Try.prog.info? 4).map (fun i => (i.zero, i.size, i.bytes)) = some (some (.bool false), 1, 1) := by kernel_rfl

/-- The registry is the finals, the queue some others, each once. -/
structure FM (g : Im.Gr) : Prop where
  reg : g.rg = Im.fins g.obs
  que : allB 1 g.obs.length g.qu
  once : g.qu.Nodup
  plain : ∀ z, z ∈ g.qu → ∀ o, g.obs[(z - 1).toNat]? = some o → o.kind ≠ 4

/-- The same of the first k of a list. -/
structure Fq (obs : List Im.Ob) (l : List Int) (M : Nat → Bool) : Prop where
  m : ∀ n, M n = true ↔ (n : Int) ∈ l
  once : l.Nodup
  plain : ∀ z, z ∈ l → ∀ o, obs[(z - 1).toNat]? = some o → o.kind ≠ 4

theorem Fq.nil (obs : List Im.Ob) : Fq obs [] (fun _ => false) := ⟨fun n => by simp, List.nodup_nil, fun z hz => by simp at hz⟩

theorem Fq.snoc {obs : List Im.Ob} {l : List Int} {M : Nat → Bool} {z : Int} {o : Im.Ob} (h : Fq obs l M) (hz : 0 ≤ z) (hM : M z.toNat = false) (ho : obs[(z - 1).toNat]? = some o) (hk : o.kind ≠ 4) : Fq obs (l ++ [z]) (Im.metSet M z.toNat) := by
  have hn : z ∉ l := fun h9 => by
    have := (h.m z.toNat).2 (by rw [show ((z.toNat : Nat) : Int) = z by omega]; exact h9)
    rw [hM] at this
    cases this
  refine ⟨fun n => ?_, ?_, fun y hy o' ho' => ?_⟩
  · simp only [Im.metSet, Bool.or_eq_true, decide_eq_true_eq, List.mem_append, List.mem_singleton, h.m]
    constructor
    · rintro (h1 | h1)
      · exact .inr (by omega)
      · exact .inl h1
    · rintro (h1 | h1)
      · exact .inr h1
      · exact .inl (by omega)
  · rw [List.nodup_append]
    exact ⟨h.once, by simp, fun a ha b hb => by simp at hb; rw [hb]; exact fun e => hn (e ▸ ha)⟩
  · rcases List.mem_append.1 hy with h1 | h1
    · exact h.plain y h1 o' ho'
    · simp at h1
      rw [h1, ho] at ho'
      cases ho'
      exact hk

end Go.Proofs.Ytckcdahjajmddaa
