/-
  Dominators: reckon.
-/
import Derived.Test.YtckgcpoheodbcaaDoorPLd
import Derived.Test.YtckgcpoheodbcaaDoorPKn
set_option linter.unusedVariables false
set_option maxRecDepth 20000
namespace Go.Proofs.YtckgcpoheodbcaaDoor
open Go.RowKit Go.Shelf Go.Proofs.YtckgcpoheodbcaaDoor.Lt

variable {par : Nat → Nat} {p q : Nat} {σ : Nat → Nat} {B fb sb ab bb sc ac bc : Nat}

theorem touch_cell {F : List Nat} {w w' : World} (ht : Kg.Touch F w w') {g : Nat} (h1 : g < w.heap.size) (h2 : g ∉ F) (x : Nat) : w'.cell? ⟨g, x, none⟩ = w.cell? ⟨g, x, none⟩ := by
  unfold World.cell?
  rw [ht.block g h1 h2]

/-- A world of X. -/
structure Wx (X : World → Prop) where
  v : World
  h : X v

/-- σ with s at z. -/
def sat (σ : Nat → Nat) (z s : Nat) : Nat → Nat := fun y => if y = z then s else σ y

theorem sat_at (z s : Nat) : sat σ z s z = s := if_pos rfl
theorem sat_ne {z s y : Nat} (h : y ≠ z) : sat σ z s y = σ y := if_neg h
theorem sat_sat (z s t : Nat) : sat (sat σ z s) z t = sat σ z t := by
  funext y
  unfold sat
  by_cases e : y = z
  · rw [if_pos e, if_pos e]
  · rw [if_neg e, if_neg e, if_neg e]
theorem sat_self (z : Nat) : sat σ z (σ z) = σ := by
  funext y
  unfold sat
  by_cases e : y = z
  · rw [if_pos e, e]
  · rw [if_neg e]

theorem Fst.setS {w : World} {F : List Nat} (h : Fst par p q σ B fb sb ab bb sc ac bc w F) {z : Nat} (hz : z < q) (hzp : z < p) (s : Nat) : Fst par p q (sat σ z s) B fb sb ab bb sc ac bc (w.setCell ⟨sb, z, none⟩ (.int .i64 (s : Nat))) F := by
  obtain ⟨tv, l, fa, bs, h1, h2, rfl⟩ := h
  refine ⟨tv, l, fa, bs, ?_, h2.congr (fun y hy => sat_ne (by omega)), rfl⟩
  have h3 := h1.setS hzp (s : Nat)
  have h4 : (fun y => if y = z then (s : Int) else (σ y : Int)) = fun y => ((sat σ z s y : Nat) : Int) := by
    funext y
    unfold sat
    by_cases e : y = z
    · rw [if_pos e, if_pos e]
    · rw [if_neg e, if_neg e]
  rw [h4] at h3
  exact h3

/-- What the reckoning of z has come to, behind the first ones of its list. -/
structure Rk (par : Nat → Nat) (σ : Nat → Nat) (z : Nat) (L l : List Nat) (s : Nat) : Prop where
  le : s ≤ z
  a : s = z ∨ ∃ v, v ∈ L ∧ ((v < z ∧ s = v) ∨ (z < v ∧ ∃ u, z < u ∧ Anc par u v ∧ s = σ u))
  b : ∀ v, v ∈ l → (v < z → s ≤ v) ∧ (z < v → ∀ u, z < u → Anc par u v → s ≤ σ u)

theorem Rk.step {z s v u : Nat} {L l : List Nat} (h : Rk par σ z L l s) (hv : v ∈ L) (hlo : ∀ y, y < z → σ y = y) (hu : Low par p (z + 1) (sat σ z s) v u) : Rk par σ z L (l ++ [v]) (min s (sat σ z s u)) := by
  have hle : min s (sat σ z s u) ≤ s := Nat.min_le_left _ _
  have hle2 : min s (sat σ z s u) ≤ sat σ z s u := Nat.min_le_right _ _
  refine ⟨Nat.le_trans hle h.le, ?_, fun x hx => ?_⟩
  · rcases Nat.le_total s (sat σ z s u) with h1 | h1
    · rw [Nat.min_eq_left h1]; exact h.a
    · rw [Nat.min_eq_right h1]
      rcases Nat.lt_trichotomy v z with h2 | h2 | h2
      · rw [hu.2.1 (by omega), sat_ne (by omega), hlo v h2]
        exact .inr ⟨v, hv, .inl ⟨h2, rfl⟩⟩
      · rw [hu.2.1 (by omega), h2, sat_at]
        exact h.a
      · obtain ⟨h3, h4, -⟩ := hu.2.2 (by omega)
        rw [sat_ne (by omega)]
        exact .inr ⟨v, hv, .inr ⟨h2, u, by omega, h4, rfl⟩⟩
  · rcases List.mem_append.1 hx with h1 | h1
    · exact ⟨fun h2 => Nat.le_trans hle ((h.b x h1).1 h2), fun h2 y h3 h4 => Nat.le_trans hle ((h.b x h1).2 h2 y h3 h4)⟩
    · have e : x = v := by simpa using h1
      subst e
      refine ⟨fun h2 => ?_, fun h2 y h3 h4 => ?_⟩
      · rw [hu.2.1 (by omega), sat_ne (by omega), hlo x h2] at hle2
        rw [hu.2.1 (by omega), sat_ne (by omega), hlo x h2]
        exact hle2
      · obtain ⟨h5, -, h6⟩ := hu.2.2 (by omega)
        have h7 := h6 y (by omega) h4
        rw [sat_ne (y := y) (by omega)] at h7
        omega

set_option maxHeartbeats 8000000 in
theorem reckon_any {E : Nat → Nat → Prop} (D : Dt E par p) (hp2 : p ≤ 2000000) (z : Nat) (hz : z < p) (hlo : ∀ y, y ≤ z → σ y = y) (L : List Nat) (hL : ∀ x, x ∈ L → x < p) (hLl : L.length ≤ 1000000000) (w : World) (F : List Nat) (h : Fst par p (z + 1) σ B fb sb ab bb sc ac bc w F) (hB : B ≤ w.heap.size) (n0 : Nat) (hn0 : n0 ≤ B) (vf : Value) (hl : Lrd n0 w vf .i64 (L.map Int.ofNat)) :
    Calls Tryd.prog 50 #[.pointer (some ⟨fb, 0, none⟩), .int .i64 (z : Nat), vf] w fun e w' => e = .returned (.tuple #[]) ∧ ∃ s F', Rk par σ z L L s ∧ Fst par p (z + 1) (sat σ z s) B fb sb ab bb sc ac bc w' F' ∧ Kg.Touch F w w' ∧ Kg.Newer w.heap.size F F' := by
  obtain ⟨pa, pc, ep, -, hp⟩ := hl
  rw [List.length_map] at ep
  subst ep
  have HP : Hid (∀ wr, Kg.Touch F w wr → ∀ (f : Nat) x, L[f]? = some x → ∃ g off, pa = some ⟨g, off, none⟩ ∧ wr.cell? ⟨g, off + f, none⟩ = some (.int .i64 (x : Nat))) := fun wr ht f x hx => by
    obtain ⟨g, off, e1, e2, e3⟩ := hp f (x : Nat) (by rw [List.getElem?_map, hx]; rfl)
    refine ⟨g, off, e1, ?_⟩
    have e4 : g ∉ F := fun hm => by have := h.mem g hm; omega
    exact (touch_cell ht (by omega) e4 _).trans e3
  have HF : Hid (Fst par p (z + 1) σ B fb sb ab bb sc ac bc w F) := h
  have HD : Hid (Dt E par p) := D
  have HLo : Hid (∀ y, y ≤ z → σ y = y) := hlo
  have HL : Hid (∀ x, x ∈ L → x < p) := hL
  clear h hp D hlo hL
  go_enter Tryd.func50, Tryd.ntmps50
  go_wp2
  go_loopw [7, 10] (fun _ v10 wr => ∃ (k s : Nat) (F1 : List Nat), v10 = .int .i64 (k : Nat) ∧ k ≤ L.length ∧ Hid (Rk par σ z L (L.take k) s) ∧ Hid (Fst par p (z + 1) (sat σ z s) B fb sb ab bb sc ac bc wr F1) ∧ Hid (Kg.Touch F w wr) ∧ Hid (Kg.Newer w.heap.size F F1)) (fun _ v10 _ => L.length - (intOf v10).toNat)
  case atStart =>
    refine ⟨0, z, F, rfl, Nat.zero_le _, ⟨Nat.le_refl _, .inl rfl, fun v hv => by simp at hv⟩, ?_, Kg.Touch.refl _ _, Kg.Newer.refl _ _⟩
    have h9 : sat σ z z = σ := by have h8 := sat_self (σ := σ) z; rw [HLo.out z (Nat.le_refl _)] at h8; exact h8
    show Fst _ _ _ _ _ _ _ _ _ _ _ _ _ _
    rw [h9]
    exact HF.out
  case round =>
    obtain ⟨k, s, F1, rfl, hk, R1, R2, R3, R4⟩ := hrel
    by_cases hkl : k < L.length
    · have hki : (k : Int) < (L.length : Int) := by omega
      obtain ⟨x, hx⟩ : ∃ x, L[k]? = some x := ⟨_, List.getElem?_eq_getElem hkl⟩
      have hxp := HL.out x (List.mem_of_getElem? hx)
      obtain ⟨g, off, rfl, cx⟩ := HP.out wr R3.out k x hx
      have HX : Hid (L[k]? = some x) := hx
      clear hx
      go_upto_region 3 with fail
      have hF2 : Fst par p (z + 1) (sat σ z s) B fb sb ab bb sc ac bc wr.drew F1 := R2.out.drewN 1
      have hBd : B ≤ wr.drew.heap.size := Nat.le_trans hB R3.out.size
      have HX0 : Hid (Fsl par p (z + 1) (sat σ z s) B fb sb ab bb sc ac bc wr.drew F1 wr.drew) := ⟨F1, hF2, Kg.Touch.refl _ _, Kg.Newer.refl _ _⟩
      obtain ⟨X, hX⟩ : ∃ X : World → Prop, X = Fsl par p (z + 1) (sat σ z s) B fb sb ab bb sc ac bc wr.drew F1 := ⟨_, rfl⟩
      have HXe : Hid (X = Fsl par p (z + 1) (sat σ z s) B fb sb ab bb sc ac bc wr.drew F1) := hX
      rw [← hX] at HX0
      have hG : ∀ P : Wx X, P.v.cell? ⟨fb, 0, none⟩ = some (.slice (some ⟨sb, 0, none⟩) p sc) ∧ (∀ y, y < p → P.v.cell? ⟨sb, y, none⟩ = some (.int .i64 (sat σ z s y : Nat))) ∧ P.v.frozen? ⟨sb, z, none⟩ = false := fun P => by
        have h2 : Fsl par p (z + 1) (sat σ z s) B fb sb ab bb sc ac bc wr.drew F1 P.v := Eq.mp (congrFun hX P.v) P.h
        obtain ⟨F2, ⟨tv2, l2, fa2, bs2, hR2, -, -⟩, -, -⟩ := h2
        exact ⟨hR2.cells.1, fun y hy => hR2.s.cell hy, hR2.s.frozen z⟩
      have x0 : ∀ P : Wx X, P.v.cell? ⟨fb, 0, none⟩ = some (.slice (some ⟨sb, 0, none⟩) p sc) := fun P => (hG P).1
      have cz : ∀ P : Wx X, P.v.cell? ⟨sb, z, none⟩ = some (.int .i64 (s : Nat)) := fun P => by
        have h9 := (hG P).2.1 z hz
        rw [sat_at] at h9
        exact h9
      have zz : ∀ P : Wx X, P.v.frozen? ⟨sb, z, none⟩ = false := fun P => (hG P).2.2
      have HG : Hid (∀ y, y < p → ∀ P : Wx X, P.v.cell? ⟨sb, y, none⟩ = some (.int .i64 (sat σ z s y : Nat))) := fun y hy P => (hG P).2.1 y hy
      have HC : Hid (∀ P : Wx X, Calls Tryd.prog 66 #[.pointer (some ⟨fb, 0, none⟩), .int .i64 (x : Nat)] P.v fun e w' => ∃ v, e = .returned v ∧ (∃ u : Nat, v = .int .i64 (u : Nat) ∧ Low par p (z + 1) (sat σ z s) x u) ∧ ∃ P' : Wx X, w' = P'.v) := fun P => by
        have h2 : Fsl par p (z + 1) (sat σ z s) B fb sb ab bb sc ac bc wr.drew F1 P.v := Eq.mp (congrFun hX P.v) P.h
        obtain ⟨F2, f1, f2, f3⟩ := h2
        refine (lowest_any HD.out hp2 x hxp P.v F2 f1 (Nat.le_trans hBd f2.size)).mono ?_
        rintro e w' ⟨u, rfl, hlow, F3, g1, g2, g3⟩
        refine ⟨_, rfl, ⟨u, rfl, hlow⟩, ⟨w', Eq.mpr (congrFun hX w') ?_⟩, rfl⟩
        refine ⟨F3, g1, f2.then g2 f3, fun k hk => ?_⟩
        rcases g3 k hk with h1 | h1
        · exact f3 k h1
        · exact .inr (Nat.le_trans f2.size h1)
      have hzi : (z : Int) < (p : Int) := by omega
      have hne : Nonempty (Wx X) := ⟨⟨wr.drew, HX0.out⟩⟩
      clear hG hF2 hX cx
      refine Kg.loose_last (fun w' => ∃ P : Wx X, w' = P.v) ⟨⟨wr.drew, HX0.out⟩, rfl⟩ 18 23 (fun v => ∃ u : Nat, v = .int .i64 (u : Nat) ∧ Low par p (z + 1) (sat σ z s) x u) rfl Kg.mixed (by kernel_rfl) (by kernel_rfl) (by decide) (by kernel_rfl) ?_
      simp only [List.take_succ_cons, List.take_zero, List.drop_succ_cons, List.drop_zero]
      iterate 18 (go_big_quiet_step (fail))
      refine wpQuiet_nil ?_
      refine ⟨⟨?_, ?_⟩, ?_⟩
      · rfl
      · rintro w' ⟨P, rfl⟩
        refine ⟨66, #[.pointer (some ⟨fb, 0, none⟩), .int .i64 (x : Nat)], ?_, HC.out P⟩
        simp [go_sem]
      · rintro v ⟨u, rfl, hlow⟩
        have mu := HG.out u hlow.1
        have hui : (u : Int) < (p : Int) := by have := hlow.1; omega
        repeat (go_big_quiet_step (fail))
        refine wpQuiet_nil ?_
        rintro w2 ⟨P, rfl⟩
        have m0 := x0 P
        have mz := cz P
        have mzz := zz P
        have hfs : Fsl par p (z + 1) (sat σ z s) B fb sb ab bb sc ac bc wr.drew F1 P.v := by
          exact Eq.mp (congrFun HXe.out P.v) P.h
        have HFS : Hid (Fsl par p (z + 1) (sat σ z s) B fb sb ab bb sc ac bc wr.drew F1 P.v) := hfs
        have HLO : Hid (Low par p (z + 1) (sat σ z s) x u) := hlow
        clear hfs hlow x0 cz zz mu
        generalize P.v = w2 at *
        go_wp2
        refine Kg.thenQuiet_mk ?_
        refine wpQuiet_nil ?_
        have e9 : min (s : Int) (sat σ z s u : Int) = ((min s (sat σ z s u) : Nat) : Int) := by omega
        rw [e9]
        have HN : Hid (∃ F2, Hid (Fst par p (z + 1) (sat σ z (min s (sat σ z s u))) B fb sb ab bb sc ac bc (w2.setCell ⟨sb, z, none⟩ (.int .i64 ((min s (sat σ z s u) : Nat) : Int))) F2) ∧ Hid (Kg.Touch F w (w2.setCell ⟨sb, z, none⟩ (.int .i64 ((min s (sat σ z s u) : Nat) : Int)))) ∧ Hid (Kg.Newer w.heap.size F F2)) := by
          obtain ⟨F2, f1, f2, f3⟩ := HFS.out
          have hws := R3.out.size
          have hin : sb ∈ F2 := by obtain ⟨_, _, _, _, _, _, rfl⟩ := f1; simp
          have n2 : Kg.Newer w.heap.size F F2 := fun k hk => by
            rcases f3 k hk with h1 | h1
            · exact R4.out k h1
            · exact .inr (Nat.le_trans hws h1)
          have t2 : Kg.Touch F w w2 := (R3.out.trans (Kg.Touch.drew _ _)).then f2 (fun k hk => R4.out k hk)
          refine ⟨F2, ?_, t2.then (Kg.Touch.setCell (F := [sb]) w2 ⟨sb, z, none⟩ _ (by simp)) (fun k hk => ?_), n2⟩
          · have h8 := f1.setS (z := z) (by omega) hz (min s (sat σ z s u))
            rw [sat_sat] at h8
            exact h8
          · have : k = sb := by simpa using hk
            rw [this]
            exact n2 sb hin
        have HK : Hid (Rk par σ z L (L.take (k + 1)) (min s (sat σ z s u))) := by
          have h8 := R1.out.step (List.mem_of_getElem? HX.out) (fun y hy => HLo.out y (by omega)) HLO.out
          have h7 : L.take (k + 1) = L.take k ++ [x] := by rw [List.take_add_one, HX.out]; rfl
          show Rk _ _ _ _ _ _
          rw [h7]
          exact h8
        clear m0 mz mzz HFS HLO HG HC R1 R2 R3 R4
        generalize w2.setCell ⟨sb, z, none⟩ (.int .i64 ((min s (sat σ z s u) : Nat) : Int)) = w3 at *
        obtain ⟨F2, f1, f2, f3⟩ := HN
        go_wp2
        go_roundw
        case rel => exact ⟨k + 1, min s (sat σ z s u), F2, by simp, by omega, HK, f1, f2, f3⟩
        case measure => simp [intOf]; omega
    · have hki : ¬ (k : Int) < (L.length : Int) := by omega
      have hk9 : k = L.length := by omega
      have h9 : L.take k = L := List.take_of_length_le (by omega)
      rw [h9] at R1
      go_wp2
      refine bodyPost_end (v := .tuple #[]) ?_ rfl ⟨rfl, s, R1.out, F1, R2.out, R3.out, R4.out⟩
      simp [results, Tryd.results50, go_sem]

end Go.Proofs.YtckgcpoheodbcaaDoor
