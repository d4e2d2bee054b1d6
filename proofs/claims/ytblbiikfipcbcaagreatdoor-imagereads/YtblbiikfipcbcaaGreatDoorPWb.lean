import Derived.Test.YtblbiikfipcbcaaGreatDoorPWa
import Derived.Test.YtblbiikfipcbcaaGreatDoorPIg
import Derived.Deep.RegionHeld3
/-
  Images, the writer: an object.
-/
set_option linter.unusedVariables false
set_option maxRecDepth 20000
namespace Go.Proofs.YtblbiikfipcbcaaGreatDoor
open Go.RowKit Go.Shelf

theorem object1_enters : ∀ args w, (callFunc 67 args).run Tryz.prog w = .ok (.enter 67 args) w := enters_of Tryz.func67 (by kernel_rfl) rfl

theorem object1_any (w : World) (c b o i q off n cap : Nat) (hc : w.cell? ⟨c, 0, none⟩ = some (.pointer (some ⟨b, o, none⟩))) (hb : w.cell? ⟨b, o + 4, none⟩ = some (.slice (some ⟨q, off, none⟩) n cap)) (hi : i < n) (hn : n ≤ 1000000000000) :
    Calls Tryz.prog 67 #[.int .i64 (i : Int), .pointer (some ⟨c, 0, none⟩)] w fun e w' => e = .returned (.iface 101 (.agg #[.pointer (some ⟨q, off + i, none⟩)])) ∧ w' = w := by
  have hiI : (i : Int) < (n : Int) := by omega
  go_enter Tryz.func67, Tryz.ntmps67
  go_wp2
  go_ret
  exact ⟨rfl, rfl⟩

/-- The serial of the object ahead. -/
def lastOf (os : List OL) : Nat → Nat
  | 0 => 0
  | k + 1 => ((os[k]?).map (·.o.ser)).getD 0

end Go.Proofs.YtblbiikfipcbcaaGreatDoor

/-
  Images, the writer: handles, slots, objects.
-/
set_option linter.unusedVariables false
set_option maxRecDepth 20000
namespace Go.Proofs.YtblbiikfipcbcaaGreatDoor
open Go.RowKit Go.Shelf

theorem parts1_enters : ∀ args w, (callFunc 51 args).run Tryz.prog w = .ok (.enter 51 args) w := enters_of Tryz.func51 (by kernel_rfl) rfl
theorem parts2_enters : ∀ args w, (callFunc 54 args).run Tryz.prog w = .ok (.enter 54 args) w := enters_of Tryz.func54 (by kernel_rfl) rfl
theorem parts3_enters : ∀ args w, (callFunc 57 args).run Tryz.prog w = .ok (.enter 57 args) w := enters_of Tryz.func57 (by kernel_rfl) rfl

/-- What can be written. -/
structure Wc (os : List OL) (ts : List (Value × List (Value × List Int))) (g : Im.Gr) : Prop where
  n : os.length ≤ 1000000000
  o : ∀ (i : Nat) x, os[i]? = some x → lastOf os i ≤ x.o.ser ∧ x.o.ser < 18446744073709551616 ∧ (0 ≤ x.o.kind ∧ x.o.kind ≤ 9223372036854775807) ∧ (0 ≤ x.o.site ∧ x.o.site ≤ 9223372036854775807) ∧ (∀ z, z ∈ x.o.ps → 0 ≤ z ∧ z ≤ 9223372036854775807) ∧ x.o.ps.length ≤ 1000000000 ∧ (∀ z, z ∈ x.o.rs → z < 18446744073709551616) ∧ x.o.rs.length ≤ 1000000000
  t : ts.length ≤ 1000000000
  tl : ∀ t, t ∈ ts → t.2.length ≤ 1000000000 ∧ ∀ f, f ∈ t.2 → f.2.length ≤ 1000000000 ∧ ∀ z, z ∈ f.2 → 0 ≤ z ∧ z ≤ 9223372036854775807
  hl : g.hs.length ≤ 1000000000
  h : ∀ z, z ∈ g.hs → -1 ≤ z ∧ z < 9223372036854775807
  ql : g.qu.length ≤ 1000000000
  q : ∀ z, z ∈ g.qu → 0 ≤ z ∧ z ≤ 9223372036854775807

theorem parts3_any (w : World) (c b i q off n cap : Nat) (hc : w.cell? ⟨c, 0, none⟩ = some (.pointer (some ⟨b, 0, none⟩))) (hb : w.cell? ⟨b, 2, none⟩ = some (.slice (some ⟨q, off, none⟩) n cap)) (hi : i < n) (hn : n ≤ 1000000000000) :
    Calls Tryz.prog 57 #[.int .i64 (i : Int), .pointer (some ⟨c, 0, none⟩)] w fun e w' => e = .returned (.iface 98 (.agg #[.pointer (some ⟨q, off + i, none⟩)])) ∧ w' = w := by
  have hiI : (i : Int) < (n : Int) := by omega
  go_enter Tryz.func57, Tryz.ntmps57
  go_wp2
  go_ret
  exact ⟨rfl, rfl⟩

theorem parts2_any (w : World) (c b i q off n cap : Nat) (hc : w.cell? ⟨c, 0, none⟩ = some (.pointer (some ⟨b, 0, none⟩))) (hb : w.cell? ⟨b, 1, none⟩ = some (.slice (some ⟨q, off, none⟩) n cap)) (hi : i < n) (hn : n ≤ 1000000000000) (Post : World → Value → Prop)
    (hC : Calls Tryz.prog 55 #[.pointer (some ⟨q, off + i, none⟩)] w fun e w' => ∃ u, e = .returned u ∧ Post w' u) :
    Calls Tryz.prog 54 #[.int .i64 (i : Int), .pointer (some ⟨c, 0, none⟩)] w fun e w' => ∃ u, e = .returned u ∧ Post w' u := by
  have hiI : (i : Int) < (n : Int) := by omega
  go_enter Tryz.func54, Tryz.ntmps54
  go_wp2_with fail
  refine hC.mono ?_
  rintro e w2 ⟨u, rfl, hP⟩
  have HP : Hid (Post w2 u) := hP
  clear hC hP
  go_wp2
  go_ret
  exact ⟨_, rfl, HP.out⟩

theorem toObs_at : ∀ (l : List Im.Ob) (last i : Nat), (Im.toObs last l)[i]? = (l[i]?).map fun o => (o.ser - (match i with | 0 => last | k + 1 => ((l[k]?).map (·.ser)).getD 0), o.kind.toNat, o.site.toNat, o.ps.map Int.toNat, o.rs) := by
  intro l
  induction l with
  | nil => intro last i; simp [Im.toObs]
  | cons o r ih =>
    intro last i
    match i with
    | 0 => simp [Im.toObs]
    | 1 => simp [Im.toObs, ih o.ser 0]
    | k + 2 => simp [Im.toObs, ih o.ser (k + 1)]

theorem parts1_any (w : World) (c b i n cap : Nat) (a : Option Addr) (hc : w.cell? ⟨c, 0, none⟩ = some (.pointer (some ⟨b, 0, none⟩))) (hb : w.cell? ⟨b, 0, none⟩ = some (.slice a n cap)) (Post : World → Value → Prop)
    (hC : Calls Tryz.prog 52 #[.slice a n cap, .int .i64 (i : Int)] w fun e w' => ∃ u, e = .returned u ∧ Post w' u) :
    Calls Tryz.prog 51 #[.int .i64 (i : Int), .pointer (some ⟨c, 0, none⟩)] w fun e w' => ∃ u, e = .returned u ∧ Post w' u := by
  go_enter Tryz.func51, Tryz.ntmps51
  go_wp2_with fail
  refine hC.mono ?_
  rintro e w2 ⟨u, rfl, hP⟩
  have HP : Hid (Post w2 u) := hP
  clear hC hP
  go_wp2
  go_ret
  exact ⟨_, rfl, HP.out⟩

end Go.Proofs.YtblbiikfipcbcaaGreatDoor

/-
  Images, the writer: all that is written of a graph.
-/
set_option linter.unusedVariables false
set_option maxRecDepth 20000
namespace Go.Proofs.YtblbiikfipcbcaaGreatDoor
open Go.RowKit Go.Shelf

end Go.Proofs.YtblbiikfipcbcaaGreatDoor

