import Derived.Test.YtblbiikfipcbcaaGreatDoorPRg
import Derived.Test.YtblbiikfipcbcaaGreatDoorPIx
import Derived.Deep.RegionHeld3
import Derived.Defers
import Derived.Recover
import Derived.Laws.Pointers
/-
  Images, the reader: what was read is a graph.
-/
set_option linter.unusedVariables false
set_option maxRecDepth 20000
namespace Go.Proofs.YtblbiikfipcbcaaGreatDoor
open Go.RowKit Go.Shelf

namespace Im

theorem flat_len {α : Type} {e : α → List Nat} {c : α → Nat} (h : ∀ x, c x ≤ (e x).length) : ∀ l : List α, (l.map c).sum ≤ (l.flatMap e).length
  | [] => Nat.zero_le _
  | x :: r => by
    have := flat_len h r
    have := h x
    rw [List.map_cons, List.sum_cons, List.flatMap_cons, List.length_append]
    omega

theorem listE_len {α : Type} {e : α → List Nat} {c : α → Nat} (h : ∀ x, c x ≤ (e x).length) (l : List α) : 1 + (l.map c).sum ≤ (listE e l).length := by
  have := flat_len h l
  have := num_pos l.length
  unfold listE
  rw [List.length_append]
  omega

theorem sum_one {α : Type} : ∀ l : List α, (l.map (fun _ => 1)).sum = l.length
  | [] => rfl
  | x :: r => by rw [List.map_cons, List.sum_cons, sum_one r, List.length_cons]; omega

theorem listN_len (l : List Nat) : 1 + l.length ≤ (listE num l).length := by
  have := listE_len (fun x => num_pos x) l
  have e := sum_one l
  exact Nat.le_trans (by rw [← e]; exact Nat.le_refl _) this

def roC (o : RO) : Nat := 5 + (o.2.2.2.1.length + o.2.2.2.2.length)
theorem roE_len (o : RO) : roC o ≤ (roE o).length := by
  have h1 := num_pos o.1
  have h2 := num_pos o.2.1
  have h3 := num_pos o.2.2.1
  have h4 := listN_len o.2.2.2.1
  have h5 := listN_len o.2.2.2.2
  unfold roE roC
  simp only [List.length_append]
  omega
def fC (f : List (List Nat)) : Nat := 1 + (f.map (fun l => 1 + l.length)).sum
theorem ngE_len (n : NG) : (n.2.1.map roC).sum + (n.2.2.1.map fC).sum + n.2.2.2.1.length + n.2.2.2.2.length ≤ (ngE n).length := by
  have h2 := listE_len roE_len n.2.1
  have h3 := listE_len (fun f => listE_len listN_len f) n.2.2.1
  have h4 := listN_len n.2.2.2.1
  have h5 := listN_len n.2.2.2.2
  unfold ngE
  simp only [List.length_append]
  have e : (n.2.2.1.map fC).sum = (n.2.2.1.map fun f => 1 + (f.map fun l => 1 + l.length).sum).sum := rfl
  omega

/-- The objects that are read: their serials' sums wrap round. -/
def wObs : Nat → List RO → List Ob
  | _, [] => []
  | last, o :: r => ⟨(last + o.1) % 18446744073709551616, o.2.1, o.2.2.1, o.2.2.2.1.map Int.ofNat, o.2.2.2.2⟩ :: wObs ((last + o.1) % 18446744073709551616) r
def wNG (n : NG) : Gr := ⟨n.1 % 18446744073709551616, wObs 0 n.2.1, n.2.2.1.map (fun t => t.map (fun f => f.map Int.ofNat)), n.2.2.2.1.map (fun k : Nat => (k : Int) - 1), fins (wObs 0 n.2.1), n.2.2.2.2.map Int.ofNat⟩

theorem wObs_rise : ∀ (l : List RO) (last : Nat), last < 18446744073709551616 → (∀ x, x ∈ l → x.1 ≤ great) → Rise last (wObs last l) → wObs last l = fromObs last l := by
  intro l
  induction l with
  | nil => intro last _ _ _; rfl
  | cons x r ih =>
    intro last h1 h2 h3
    have h4 := h2 x (by simp)
    unfold great at h4
    have h5 : last < (last + x.1) % 18446744073709551616 := h3.1
    have e : (last + x.1) % 18446744073709551616 = last + x.1 := by omega
    have h6 := ih ((last + x.1) % 18446744073709551616) (by omega) (fun y hy => h2 y (by simp [hy])) h3.2
    show _ :: wObs ((last + x.1) % 18446744073709551616) r = _ :: fromObs (last + x.1) r
    rw [h6, e]

theorem wObs_low : ∀ (l : List RO) (last : Nat), (∀ o, o ∈ fromObs last l → o.ser < 18446744073709551616) → wObs last l = fromObs last l := by
  intro l
  induction l with
  | nil => intro last _; rfl
  | cons x r ih =>
    intro last h
    have h1 : last + x.1 < 18446744073709551616 := h _ (List.mem_cons_self ..)
    have e : (last + x.1) % 18446744073709551616 = last + x.1 := Nat.mod_eq_of_lt h1
    show _ :: wObs ((last + x.1) % 18446744073709551616) r = _ :: fromObs (last + x.1) r
    rw [e, ih _ (fun o ho => h o (List.mem_cons_of_mem _ ho))]

theorem wNG_rise {n : NG} (h : ngOk n) (hr : Rise 0 (wNG n).obs) : wNG n = fromNG n := by
  have h1 : n.1 % 18446744073709551616 = n.1 := by
    have : n.1 ≤ great := h.1
    unfold great at this
    omega
  have h2 := wObs_rise n.2.1 0 (by decide) (fun x hx => (h.2.1.2 x hx).1) hr
  unfold wNG fromNG
  rw [h1, h2]

theorem wNG_low {n : NG} (h : ngOk n) (hr : ∀ o, o ∈ (fromNG n).obs → o.ser < 18446744073709551616) : wNG n = fromNG n := by
  have h1 : n.1 % 18446744073709551616 = n.1 := by
    have : n.1 ≤ great := h.1
    unfold great at this
    omega
  have h2 := wObs_low n.2.1 0 hr
  unfold wNG fromNG
  rw [h1, h2]

theorem wObs_sizes : ∀ (l : List RO) (last : Nat), (wObs last l).length = l.length ∧ 5 * (wObs last l).length + ((wObs last l).map (fun o => o.ps.length + o.rs.length)).sum = (l.map roC).sum := by
  intro l
  induction l with
  | nil => intro last; exact ⟨rfl, rfl⟩
  | cons x r ih =>
    intro last
    obtain ⟨h1, h2⟩ := ih ((last + x.1) % 18446744073709551616)
    unfold wObs
    simp only [List.length_cons, List.map_cons, List.sum_cons, List.length_map, roC] at h1 h2 ⊢
    omega

theorem finsFrom_len : ∀ (l : List Ob) (i : Nat), (finsFrom i l).length ≤ l.length := by
  intro l
  induction l with
  | nil => intro i; exact Nat.zero_le _
  | cons x r ih =>
    intro i
    have := ih (i + 1)
    unfold finsFrom
    split <;> simp only [List.length_cons] <;> omega

theorem slots_sizes (l : List (List (List Nat))) : l.length + ((l.map (fun t => t.map (fun f => f.map Int.ofNat))).map (fun t => t.length + fsum t)).sum = (l.map fC).sum := by
  induction l with
  | nil => rfl
  | cons x r ih =>
    have h : ∀ f : List (List Nat), f.length + fsum (f.map (fun l => l.map Int.ofNat)) = (f.map (fun l => 1 + l.length)).sum := fun f => by
      induction f with
      | nil => rfl
      | cons y s ih2 =>
        simp only [fsum, List.length_cons, List.map_cons, List.sum_cons, List.length_map] at ih2 ⊢
        omega
    have := h x
    simp only [List.length_cons, List.map_cons, List.sum_cons, List.length_map, fC] at ih ⊢
    omega

end Im

theorem Vi.lrd {xs : List Nat} {u : Value} {w : World} (h : Vi xs u w) : Lrd w.heap.size w u .i64 (xs.map Int.ofNat) := by
  obtain ⟨a, cap, h1, h2, h3⟩ := row_at h (by decide)
  refine ⟨a, cap, by rw [List.length_map]; exact h1, by rw [List.length_map]; exact h2, fun f z hz => ?_⟩
  rw [List.getElem?_map] at hz
  obtain ⟨x, hx, rfl⟩ := Option.map_eq_some_iff.1 hz
  obtain ⟨q, e1, e2, e3⟩ := h3 f _ (by rw [List.getElem?_map, hx]; rfl)
  exact ⟨q, 0, e1, e2, by rw [Nat.zero_add]; exact e3⟩

theorem Vu.lrd {xs : List Nat} {u : Value} {w : World} (h : Vu xs u w) : Lrd w.heap.size w u .u64 (xs.map Int.ofNat) := by
  obtain ⟨a, cap, h1, h2, h3⟩ := row_at h (by decide)
  refine ⟨a, cap, by rw [List.length_map]; exact h1, by rw [List.length_map]; exact h2, fun f z hz => ?_⟩
  rw [List.getElem?_map] at hz
  obtain ⟨x, hx, rfl⟩ := Option.map_eq_some_iff.1 hz
  obtain ⟨q, e1, e2, e3⟩ := h3 f _ (by rw [List.getElem?_map, hx]; rfl)
  exact ⟨q, 0, e1, e2, by rw [Nat.zero_add]; exact e3⟩

theorem Vh.lrd {xs : List Nat} {u : Value} {w : World} (h : Vh xs u w) : Lrd w.heap.size w u .i64 (xs.map (fun k : Nat => (k : Int) - 1)) := by
  obtain ⟨a, cap, h1, h2, h3⟩ := row_at h (by decide)
  refine ⟨a, cap, by rw [List.length_map]; exact h1, by rw [List.length_map]; exact h2, fun f z hz => ?_⟩
  rw [List.getElem?_map] at hz
  obtain ⟨x, hx, rfl⟩ := Option.map_eq_some_iff.1 hz
  obtain ⟨q, e1, e2, e3⟩ := h3 f _ (by rw [List.getElem?_map, hx]; rfl)
  exact ⟨q, 0, e1, e2, by rw [Nat.zero_add]; exact e3⟩

theorem Vf.frd {fs : List (List Nat)} {u : Value} {w : World} (h : Vf fs u w) : ∃ ls, Frd w.heap.size w u ls ∧ ls.map (·.2) = fs.map (fun l => l.map Int.ofNat) := by
  obtain ⟨us, hl, ho, hr⟩ := h
  obtain ⟨a, cap, h1, h2, h3⟩ := row_at ho (by decide)
  refine ⟨us.zip (fs.map (fun l => l.map Int.ofNat)), ⟨a, cap, ?_, fun i x hx => ?_⟩, ?_⟩
  · rw [List.length_zip, List.length_map, hl, Nat.min_self]; exact h1
  · obtain ⟨hx1, hx2⟩ := List.getElem?_zip_eq_some.1 hx
    rw [List.getElem?_map] at hx2
    obtain ⟨y, hy, e⟩ := Option.map_eq_some_iff.1 hx2
    obtain ⟨q, e1, e2, e3⟩ := h3 i _ hx1
    rw [← e]
    exact ⟨(hr i y x.1 hy hx1).lrd, q, 0, e1, e2, by rw [Nat.zero_add]; exact e3⟩
  · rw [List.map_snd_zip]
    rw [List.length_map, hl]; exact Nat.le_refl _

theorem Vt.trd {ts : List (List (List Nat))} {u : Value} {w : World} (h : Vt ts u w) : ∃ ls, Trd w.heap.size w u ls ∧ ls.map (fun t => t.2.map (·.2)) = ts.map (fun t => t.map (fun f => f.map Int.ofNat)) := by
  obtain ⟨us, hl, ho, hr⟩ := h
  obtain ⟨a, cap, h1, h2, h3⟩ := row_at ho (by decide)
  have hch : ∀ (vs : List Value) (fs : List (List (List Nat))), vs.length = fs.length → (∀ (j : Nat) x y, fs[j]? = some x → vs[j]? = some y → Vf x y w) → ∃ ls : List (Value × List (Value × List Int)), ls.length = vs.length ∧ ls.map (·.1) = vs ∧ (∀ x, x ∈ ls → Frd w.heap.size w x.1 x.2) ∧ ls.map (fun t => t.2.map (·.2)) = fs.map (fun t => t.map (fun f => f.map Int.ofNat)) := by
    intro vs
    induction vs with
    | nil => intro fs e _; cases fs with
      | nil => exact ⟨[], rfl, rfl, (fun x hx => absurd hx (by simp)), rfl⟩
      | cons => simp at e
    | cons v r ih => intro fs e hh; cases fs with
      | nil => simp at e
      | cons f s =>
        obtain ⟨ls, g1, g2, g3, g4⟩ := ih s (by simpa using e) (fun j x y hx hy => hh (j + 1) x y (by simpa using hx) (by simpa using hy))
        obtain ⟨l0, k1, k2⟩ := (hh 0 f v rfl rfl).frd
        refine ⟨(v, l0) :: ls, by simp [g1], by simp [g2], fun x hx => ?_, by simp only [List.map_cons, k2, g4]⟩
        rcases List.mem_cons.1 hx with rfl | hx
        · exact k1
        · exact g3 x hx
  obtain ⟨ls, g1, g2, g3, g4⟩ := hch us ts hl hr
  refine ⟨ls, ⟨a, cap, by rw [g1, hl]; exact h1, fun i x hx => ⟨g3 x (List.mem_of_getElem? hx), ?_⟩⟩, g4⟩
  obtain ⟨q, e1, e2, e3⟩ := h3 i x.1 (by rw [← g2, List.getElem?_map, hx]; rfl)
  exact ⟨q, 0, e1, e2, by rw [Nat.zero_add]; exact e3⟩

def OE.ol (e : OE) : OL := ⟨⟨e.ser, e.ro.2.1, e.ro.2.2.1, e.ro.2.2.2.1.map Int.ofNat, e.ro.2.2.2.2⟩, e.vp, e.vr⟩

theorem wObs_of : ∀ (ros : List Im.RO) (es : List OE) (last : Nat), es.length = ros.length → (∀ (j : Nat) x y, ros[j]? = some x → es[j]? = some y → y.ro = x ∧ y.ser = ((if j = 0 then last else lastE es j) + x.1) % 18446744073709551616) → es.map (fun e => e.ol.o) = Im.wObs last ros := by
  intro ros
  induction ros with
  | nil => intro es last hl _; cases es with
    | nil => rfl
    | cons => simp at hl
  | cons x r ih => intro es last hl h; cases es with
    | nil => simp at hl
    | cons y s =>
      obtain ⟨h1, h2⟩ := h 0 x y rfl rfl
      simp only [if_true] at h2
      have h3 := ih s y.ser (by simpa using hl) (fun j a b ha hb => by
        obtain ⟨k1, k2⟩ := h (j + 1) a b (by simpa using ha) (by simpa using hb)
        refine ⟨k1, ?_⟩
        rw [if_neg (by omega)] at k2
        rw [k2]
        cases j with
        | zero => simp [lastE]
        | succ j => simp [lastE])
      rw [List.map_cons, h3]
      subst h1
      show (⟨y.ser, _, _, _, _⟩ : Im.Ob) :: Im.wObs y.ser r = ⟨(last + y.ro.1) % 18446744073709551616, _, _, _, _⟩ :: Im.wObs ((last + y.ro.1) % 18446744073709551616) r
      rw [← h2]

theorem Vo.ord {ros : List Im.RO} {u : Value} {w : World} (h : Vo ros u w) : ∃ os, Ord w.heap.size w u os ∧ os.map (·.o) = Im.wObs 0 ros := by
  obtain ⟨es, hE, ho⟩ := h
  obtain ⟨a, cap, h1, h2, h3⟩ := row_at ho (by decide)
  refine ⟨es.map OE.ol, ⟨a, cap, by rw [List.length_map, hE.l]; exact h1, fun i x hx => ?_⟩, ?_⟩
  · rw [List.getElem?_map] at hx
    obtain ⟨y, hy, rfl⟩ := Option.map_eq_some_iff.1 hx
    have hi : i < ros.length := by rw [← hE.l]; exact (List.getElem?_eq_some_iff.1 hy).1
    obtain ⟨e1, e2, e3, e4⟩ := hE.r i _ y (List.getElem?_eq_getElem hi) hy
    rw [← e1] at e3 e4
    refine ⟨e3.lrd, e4.lrd, ?_⟩
    have hc : ∀ j, j < 5 → ∃ q, a = some ⟨q, 0, none⟩ ∧ q < w.heap.size ∧ w.cell? ⟨q, i * 5 + j, none⟩ = y.ol.cells[j]? := fun j hj => by
      have hf := flatE_at es i j y hy hj
      have e5 : y.cells[j]? = y.ol.cells[j]? := by
        rcases j with _ | _ | _ | _ | _ | j
        · rfl
        · rfl
        · rfl
        · rfl
        · rfl
        · omega
      have hs : ∃ z, y.cells[j]? = some z := ⟨_, List.getElem?_eq_getElem (by simpa using hj)⟩
      obtain ⟨z, hz⟩ := hs
      obtain ⟨q, k1, k2, k3⟩ := h3 (i * 5 + j) z (hf.trans hz)
      exact ⟨q, k1, k2, by rw [k3, ← e5, hz]⟩
    obtain ⟨q, k1, k2, k3⟩ := hc 0 (by decide)
    refine ⟨q, 0, k1, k2, fun j hj => ?_⟩
    obtain ⟨q', k1', -, k3'⟩ := hc j hj
    rw [k1] at k1'
    cases k1'
    rw [Nat.zero_add]
    exact k3'
  · rw [List.map_map]
    exact wObs_of ros es 0 hE.l (fun j x y hx hy => by
      obtain ⟨k1, k2, -⟩ := hE.r j x y hx hy
      refine ⟨k1, ?_⟩
      rw [k2]
      cases j with
      | zero => rfl
      | succ j => rfl)

end Go.Proofs.YtblbiikfipcbcaaGreatDoor

/-
  Images, the reader: a whole graph.
-/
set_option linter.unusedVariables false
set_option maxRecDepth 20000
namespace Go.Proofs.YtblbiikfipcbcaaGreatDoor
open Go.RowKit Go.Shelf

section
variable {bs : List Nat}
theorem dec_1 (h : bs.length < 4) : Im.dec bs = .error (bs.length, 160) := by unfold Im.dec; rw [if_pos h]
theorem dec_2 (h : 4 ≤ bs.length) (h2 : bs.take 4 ≠ Im.magic) : Im.dec bs = .error (0, 161) := by unfold Im.dec; rw [if_neg (by omega), if_pos h2]
variable (h : 4 ≤ bs.length) (h2 : bs.take 4 = Im.magic)
include h h2
theorem dec_3 {e : Nat × Nat} (h3 : Im.ngP bs 4 = .error e) : Im.dec bs = .error e := by unfold Im.dec; rw [if_neg (by omega), if_neg (by simp [h2]), h3]
variable {g : Im.NG} {p : Nat} (h3 : Im.ngP bs 4 = .ok (g, p))
include h3
theorem dec_4 (h4 : bs.length < p + 4) (hp : p ≤ bs.length) : Im.dec bs = .error (bs.length, 160) := by
  unfold Im.dec
  rw [if_neg (by omega), if_neg (by simp [h2]), h3]
  show (if bs.length - p < 4 then _ else _) = _
  rw [if_pos (by omega)]
theorem dec_5 (h4 : p + 4 ≤ bs.length) (h5 : (bs.drop p).take 4 ≠ Im.le4 (Im.fnv (bs.take p))) : Im.dec bs = .error (p, 163) := by
  unfold Im.dec
  rw [if_neg (by omega), if_neg (by simp [h2]), h3]
  show (if bs.length - p < 4 then _ else _) = _
  rw [if_neg (by omega), if_pos h5]
theorem dec_6 (h4 : p + 4 < bs.length) (h5 : (bs.drop p).take 4 = Im.le4 (Im.fnv (bs.take p))) : Im.dec bs = .error (p + 4, 162) := by
  unfold Im.dec
  rw [if_neg (by omega), if_neg (by simp [h2]), h3]
  show (if bs.length - p < 4 then _ else _) = _
  rw [if_neg (by omega), if_neg (by simp [h5]), if_pos h4]
theorem dec_7 (h4 : p + 4 = bs.length) (h5 : (bs.drop p).take 4 = Im.le4 (Im.fnv (bs.take p))) : Im.dec bs = .ok g := by
  unfold Im.dec
  rw [if_neg (by omega), if_neg (by simp [h2]), h3]
  show (if bs.length - p < 4 then _ else _) = _
  rw [if_neg (by omega), if_neg (by simp [h5]), if_neg (by omega)]
end

theorem gsz_le {os : List OL} {ts : List (Value × List (Value × List Int))} {y : Im.NG} (ho : os.map (·.o) = Im.wObs 0 y.2.1) (ht : ts.map (fun t => t.2.map (·.2)) = y.2.2.1.map (fun t => t.map (fun f => f.map Int.ofNat))) : gsz os ts (Im.wNG y) ≤ (Im.ngE y).length := by
  obtain ⟨h1, h2⟩ := Im.wObs_sizes y.2.1 0
  have h3 := Im.slots_sizes y.2.2.1
  have h4 := Im.ngE_len y
  have h5 : (Im.wNG y).rg.length ≤ (Im.wObs 0 y.2.1).length := Im.finsFrom_len _ _
  have e1 : os.length = (Im.wObs 0 y.2.1).length := by rw [← ho, List.length_map]
  have e2 : osum os = ((Im.wObs 0 y.2.1).map (fun o => o.ps.length + o.rs.length)).sum := by rw [← ho, List.map_map]; rfl
  have e3 : ts.length = y.2.2.1.length := by have := congrArg List.length ht; simpa using this
  have e4 : tsum ts = ((y.2.2.1.map (fun t => t.map (fun f => f.map Int.ofNat))).map (fun t => t.length + fsum t)).sum := by
    rw [← ht, List.map_map]
    unfold tsum
    congr 1
    refine List.map_congr_left fun x hx => ?_
    simp
  have e5 : (Im.wNG y).hs.length = y.2.2.2.1.length := by simp [Im.wNG]
  have e6 : (Im.wNG y).qu.length = y.2.2.2.2.length := by simp [Im.wNG]
  unfold gsz szs
  omega

theorem wObs_ok : ∀ (l : List Im.RO) (last : Nat), (∀ x, x ∈ l → Im.roOk x) → ∀ o, o ∈ Im.wObs last l → o.ser < 18446744073709551616 ∧ InI o.kind ∧ InI o.site := by
  intro l
  induction l with
  | nil => intro last _ o ho; cases ho
  | cons x r ih =>
    intro last h o ho
    rcases List.mem_cons.1 ho with rfl | ho
    · have h1 := h x (by simp)
      have h2 : x.2.1 ≤ Im.great := h1.2.1
      have h3 : x.2.2.1 ≤ Im.great := h1.2.2.1
      unfold Im.great at h2 h3
      exact ⟨Nat.mod_lt _ (by decide), by unfold InI; simp only; omega, by unfold InI; simp only; omega⟩
    · exact ih _ (fun y hy => h y (by simp [hy])) o ho

/-- What was read, with its registry. -/
theorem grd_of {w : World} {vo vs vh vr vq : Value} {y : Im.NG} (g1 : Vo y.2.1 vo w) (g2 : Vt y.2.2.1 vs w) (g3 : Vh y.2.2.2.1 vh w) (g4 : Vi y.2.2.2.2 vq w) (g5 : Lrd w.heap.size w vr .i64 (Im.fins (Im.wObs 0 y.2.1))) (hok : Im.ngOk y) (hb : (Im.ngE y).length ≤ 1000000000000) : ∃ os ts, Grd w.heap.size w vo vs vh vr vq os ts (Im.wNG y) ∧ gsz os ts (Im.wNG y) ≤ (Im.ngE y).length ∧ Gln os ts (Im.wNG y) := by
  obtain ⟨os, o1, o2⟩ := g1.ord
  obtain ⟨ts, t1, t2⟩ := g2.trd
  have hs := gsz_le o2 t2
  refine ⟨os, ts, ⟨o1, t1, g3.lrd, g5, g4.lrd, o2.symm, t2.symm, Nat.mod_lt _ (by decide), fun o ho => ?_⟩, hs, gln_le (by omega) o2.symm t2.symm⟩
  obtain ⟨k1, k2, k3⟩ := wObs_ok y.2.1 0 hok.2.1.2 o ho
  have ho' : o ∈ os.map (·.o) := by rw [o2]; exact ho
  obtain ⟨x, hx, rfl⟩ := List.mem_map.1 ho'
  have := sum_mem (fun x : OL => x.o.ps.length + x.o.rs.length) os x hx
  have e : osum os = (os.map (fun x : OL => x.o.ps.length + x.o.rs.length)).sum := rfl
  unfold gsz at hs
  exact ⟨k1, k2, k3, by omega, by omega⟩

/-- All that was read, and its registry. -/
def Vall (y : Im.NG) (vo vs vh vr vq : Value) (w : World) : Prop := Vo y.2.1 vo w ∧ Vt y.2.2.1 vs w ∧ Vh y.2.2.2.1 vh w ∧ Vi y.2.2.2.2 vq w ∧ w.ownsRow 0 3 1 vr (Im.fins (Im.wObs 0 y.2.1)).length (Kg.ints (Im.fins (Im.wObs 0 y.2.1)))

theorem Vall.st {y : Im.NG} {vo vs vh vr vq : Value} {w1 w2 : World} {G : List Nat} (h : Vall y vo vs vh vr vq w1) (t : Kg.Touch G w1 w2) (hG : ∀ k, k ∈ G → ∀ cs t', w1.heap[k]? = some (.cells cs t' (0, 0)) → t' ∉ [3, 26, 58, 25, 33]) : Vall y vo vs vh vr vq w2 := by
  obtain ⟨h1, h2, h3, h4, h5⟩ := h
  have hi : ∀ k, k ∈ G → ∀ cs t', w1.heap[k]? = some (.cells cs t' (0, 0)) → t' ≠ 3 := fun k hk cs t' hc e => hG k hk cs t' hc (by simp [e])
  refine ⟨h1.st t (fun k hk cs t' hc hm => hG k hk cs t' hc ?_), h2.st t (fun k hk cs t' hc hm => hG k hk cs t' hc ?_), row_st h3 t hi, row_st h4 t hi, row_st h5 t hi⟩
  · simp only [List.mem_cons, List.not_mem_nil, or_false] at hm ⊢
    rcases hm with rfl | rfl | rfl <;> simp
  · simp only [List.mem_cons, List.not_mem_nil, or_false] at hm ⊢
    rcases hm with rfl | rfl | rfl <;> simp

/-- What the reader tells of bytes: the graph, or the first fault. -/
def Gres (bs : List Nat) (e : Ending) (w' : World) : Prop := match Im.dec bs with
  | .error (pl, k) => e = .panicked (thrown (pl : Int) (k : Int))
  | .ok n => (¬ MB (Im.wNG n) ∧ e = .panicked (thrown 0 164)) ∨ (MB (Im.wNG n) ∧ ∃ vo vs vh vr vq, e = .returned (.agg (gcs vo vs vh vr vq (Im.wNG n).next)) ∧ Vall n vo vs vh vr vq w')

theorem Gres.err {bs : List Nat} {pl k : Nat} {w' : World} (h : Im.dec bs = .error (pl, k)) : Gres bs (.panicked (thrown (pl : Int) (k : Int))) w' := by
  unfold Gres
  rw [h]

set_option maxHeartbeats 8000000 in
theorem rgraph_any {w : World} {n0 R : Nat} {v : Value} {bs : List Nat} (h : Rdr w n0 R v bs 0) (hby : ∀ x, x ∈ bs → x < 256) (hL : ∀ w', Below n0 w w' → Laid w') :
    Calls Tryz.prog 21 #[.pointer (some ⟨R, 0, none⟩)] w fun e w' => Kg.Touch [R] w w' ∧ Gres bs e w' := by
  have HL : Hid (∀ w', Below n0 w w' → Laid w') := hL
  clear hL
  have hlo := h.lo
  have hRl := Kg.heap_lt h.b
  go_enter Tryz.func21, Tryz.ntmps21
  go_wp2_with fail
  have b0 : Below w.heap.size w (w.alloc (.cells (gr6 (.slice none 0 0) (.slice none 0 0) (.slice none 0 0) (.slice none 0 0) 0) 28)) := Below.alloc (Below.refl _ _) (Nat.le_refl _) _
  have b1 : Below w.heap.size w ((w.alloc (.cells (gr6 (.slice none 0 0) (.slice none 0 0) (.slice none 0 0) (.slice none 0 0) 0) 28)).alloc (.cells (gr6 (.slice none 0 0) (.slice none 0 0) (.slice none 0 0) (.slice none 0 0) 0) 28)) := Below.alloc b0 (by simp) _
  have hA := heap_alloc_new w (.cells (gr6 (.slice none 0 0) (.slice none 0 0) (.slice none 0 0) (.slice none 0 0) 0) 28 (0, 0))
  have hA := (Below.heap_alloc _ (.cells (gr6 (.slice none 0 0) (.slice none 0 0) (.slice none 0 0) (.slice none 0 0) 0) 28 (0, 0)) _ (Kg.heap_lt hA)).trans hA
  have hB := heap_alloc_new (w.alloc (.cells (gr6 (.slice none 0 0) (.slice none 0 0) (.slice none 0 0) (.slice none 0 0) 0) 28)) (.cells (gr6 (.slice none 0 0) (.slice none 0 0) (.slice none 0 0) (.slice none 0 0) 0) 28 (0, 0))
  rw [show (w.alloc (.cells (gr6 (.slice none 0 0) (.slice none 0 0) (.slice none 0 0) (.slice none 0 0) 0) 28)).heap.size = w.heap.size + 1 by simp] at hB
  clear b0
  have B1 : Hid (Below w.heap.size w ((w.alloc (.cells (gr6 (.slice none 0 0) (.slice none 0 0) (.slice none 0 0) (.slice none 0 0) 0) 28)).alloc (.cells (gr6 (.slice none 0 0) (.slice none 0 0) (.slice none 0 0) (.slice none 0 0) 0) 28))) := b1
  have H0 := h.below b1
  clear b1 h
  generalize (w.alloc (.cells (gr6 (.slice none 0 0) (.slice none 0 0) (.slice none 0 0) (.slice none 0 0) 0) 28)).alloc (.cells (gr6 (.slice none 0 0) (.slice none 0 0) (.slice none 0 0) (.slice none 0 0) 0) 28) = W at *
  have hBl := Kg.heap_lt hB
  have hAd : Hid (w.heap.size = w.heap.size) := rfl
  generalize hS : w.heap.size = A at *
  clear hAd
  refine (rbegin_any H0 hby).mono ?_
  rintro e w1 ⟨t1, h1⟩
  have T1 : Hid (Kg.Touch [R] w w1) := (Kg.Touch.of_below (by rw [hS]; exact B1.out) _).trans t1
  rcases h1 with ⟨hlt, rfl⟩ | ⟨hle, hm, rfl⟩ | ⟨hle, hm, rfl, hr1⟩
  · exact ⟨rfl, T1.out, Gres.err (dec_1 hlt)⟩
  · exact ⟨rfl, T1.out, Gres.err (dec_2 hle hm)⟩
  have hA1 := (t1.block A (by omega) (by simp; omega)).trans hA
  have hB1 := (t1.block (A + 1) hBl (by simp; omega)).trans hB
  have hm : Hid (bs.take 4 = Im.magic) := hm
  clear t1 hA hB H0 hBl
  have hBl := Kg.heap_lt hB1
  have hRl1 := Kg.heap_lt hr1.b
  have hP := parts_ex (w := w1) (B := A + 1) hBl (fun j hj => by
    rw [Kg.heap_cell hB1 j]
    rcases j with _ | _ | _ | _ | _ | j
    · rfl
    · rfl
    · rfl
    · rfl
    · rfl
    · omega)
  go_wp2_with fail
  refine hP.mono ?_
  rintro e w2 ⟨b2, g, rfl, u, c, c1, c2, c3, hg⟩
  clear hP
  have hr2 := hr1.below b2
  have hA2 := (b2.block A (by omega)).trans hA1
  have hB2 := (b2.block (A + 1) hBl).trans hB1
  have T2 : Hid (Kg.Touch [R] w w2) := T1.out.trans (Kg.Touch.of_below b2 _)
  have hT := rd_top hr2 hby hB2 (by omega) (by omega) hg hRl1 hBl
  clear hr1 hA1 hB1 T1 B1 hg hr2 hB2 b2
  go_wp2_with fail
  refine hT.mono ?_
  rintro e w3 ⟨t3, h3⟩
  clear hT
  have hwl := T2.out.size
  have T3 : Hid (Kg.Touch [R] w w3) := ⟨t3.os.trans T2.out.os, t3.tape.trans T2.out.tape, t3.output.trans T2.out.output, Nat.le_trans T2.out.size t3.size, fun k hk hn => (t3.block k (by omega) (by simp at hn ⊢; omega)).trans (T2.out.block k hk hn)⟩
  have hA3 := (t3.block A (Kg.heap_lt hA2) (by simp; omega)).trans hA2
  clear t3 T2 hA2
  rcases hng : Im.ngP bs 4 with ⟨pl, k⟩ | ⟨y, r⟩
  · rw [hng] at h3
    obtain rfl : e = .panicked (thrown (pl : Int) (k : Int)) := h3
    exact ⟨rfl, T3.out, Gres.err (dec_3 hle hm.out hng)⟩
  rw [hng] at h3
  obtain ⟨rfl, hr3, vo, vs, vh, vq, hB3, g1, g2, g3, g4⟩ := h3
  have hrb : r ≤ bs.length := hr3.le
  have Hng : Hid (Im.ngP bs 4 = .ok (y, r)) := hng
  clear hng
  have hE := rend_any hr3 hby hlo
  have hRl3 := Kg.heap_lt hr3.b
  have hRb := hr3.b
  have hbn := hr3.n
  clear hr3
  go_wp2_with fail
  refine hE.mono ?_
  rintro e w4 ⟨t4, h4⟩
  clear hE
  have T4 : Hid (Kg.Touch [R] w w4) := T3.out.trans t4
  rcases h4 with ⟨q1, rfl⟩ | ⟨q1, q2, rfl⟩ | ⟨q1, q2, rfl⟩ | ⟨q1, q2, rfl, hr4⟩
  · exact ⟨rfl, T4.out, Gres.err (dec_4 hle hm.out Hng.out q1 hrb)⟩
  · exact ⟨rfl, T4.out, Gres.err (dec_5 hle hm.out Hng.out q1 q2)⟩
  · exact ⟨rfl, T4.out, Gres.err (dec_6 hle hm.out Hng.out q1 q2)⟩
  have Hd : Hid (Im.dec bs = .ok y) := dec_7 hle hm.out Hng.out q1 q2
  have hOk := (Im.rd_ng (Im.bytes_at hby)).un y 4 r Hng.out
  have hsz : (Im.ngE y).length ≤ bs.length := by
    have := hOk.2.e
    omega
  have hok : Hid (Im.ngOk y) := hOk.1
  have g1 := g1.st t4 (fun k hk cs t' hc => by simp only [List.mem_cons, List.not_mem_nil, or_false] at hk; subst hk; rw [hRb] at hc; cases hc; decide)
  have g2 := g2.st t4 (fun k hk cs t' hc => by simp only [List.mem_cons, List.not_mem_nil, or_false] at hk; subst hk; rw [hRb] at hc; cases hc; decide)
  have g3 : Vh _ _ w4 := row_st g3 t4 (fun k hk cs t' hc => by simp only [List.mem_cons, List.not_mem_nil, or_false] at hk; subst hk; rw [hRb] at hc; cases hc; decide)
  have g4 : Vi _ _ w4 := row_st g4 t4 (fun k hk cs t' hc => by simp only [List.mem_cons, List.not_mem_nil, or_false] at hk; subst hk; rw [hRb] at hc; cases hc; decide)
  have hA4 := (t4.block A (Kg.heap_lt hA3) (by simp; omega)).trans hA3
  have hB4 := (t4.block (A + 1) (Kg.heap_lt hB3) (by simp; omega)).trans hB3
  clear t4 hA3 hB3 hr4 hRb q2 hOk T3
  obtain ⟨os, o1, o2⟩ := g1.ord
  have hF := gFinals_any w4.heap.size w4 vo os o1 (Nat.le_refl _) (by have := congrArg List.length o2; rw [List.length_map, (Im.wObs_sizes _ _).1] at this; have := hok.out.2.1.1; have := (Im.wObs_sizes y.2.1 0).2; have := Im.ngE_len y; have := (Im.wObs_sizes y.2.1 0).1; omega) (fun x hx => (wObs_ok y.2.1 0 hok.out.2.1.2 x.o (by rw [← o2]; exact List.mem_map_of_mem hx)).2.1)
  rw [o2] at hF
  clear o1 o2 os
  have cB0 := (Kg.heap_cell hB4 0).trans (show _ = some vo from rfl)
  go_wp2_with fail
  refine hF.mono ?_
  rintro e w5 ⟨vr, rfl, b5, hvr⟩
  clear hF cB0
  obtain ⟨ar, cr, rfl⟩ : ∃ a cap, vr = .slice a (Im.fins (Im.wObs 0 y.2.1)).length cap := by
    obtain ⟨a, cap, e1, -⟩ := row_at (Kg.row_base hvr (Nat.zero_le _)) (by decide)
    exact ⟨a, cap, e1⟩
  have T5 : Hid (Kg.Touch [R] w w5) := T4.out.trans (Kg.Touch.of_below b5 _)
  have t5 : Kg.Touch [] w4 w5 := Kg.Touch.of_below b5 _
  have V5 : Vall y vo vs vh (.slice ar (Im.fins (Im.wObs 0 y.2.1)).length cr) vq w5 := ⟨g1.st t5 (fun k hk => by cases hk), g2.st t5 (fun k hk => by cases hk), row_st g3 t5 (fun k hk => by cases hk), row_st g4 t5 (fun k hk => by cases hk), Kg.row_base hvr (Nat.zero_le _)⟩
  have hBl4 := Kg.heap_lt hB4
  have hA5 := (b5.block A (Kg.heap_lt hA4)).trans hA4
  have hB5 := (b5.block (A + 1) hBl4).trans hB4
  clear b5 t5 hA4 hB4 T4
  have cB3 := (Kg.heap_cell hB5 3).trans (show _ = some (.slice none 0 0) from rfl)
  have fz3 := Kg.heap_frozen hB5 3
  go_upto_region 6 with fail
  have hB6 := Kg.heap_set hB5 3 (.slice ar (Im.fins (Im.wObs 0 y.2.1)).length cr)
  have t6 : Kg.Touch [A + 1] w5 (w5.setCell ⟨A + 1, 3, none⟩ (.slice ar (Im.fins (Im.wObs 0 y.2.1)).length cr)) := Kg.Touch.setCell _ _ _ (by simp)
  have T6 : Hid (Kg.Touch [R] w (w5.setCell ⟨A + 1, 3, none⟩ (.slice ar (Im.fins (Im.wObs 0 y.2.1)).length cr))) := ⟨t6.os.trans T5.out.os, t6.tape.trans T5.out.tape, t6.output.trans T5.out.output, Nat.le_trans T5.out.size t6.size, fun k hk hn => (t6.block k (by have := T5.out.size; omega) (by simp; omega)).trans (T5.out.block k hk hn)⟩
  have V6 := V5.st t6 (fun k hk cs t' hc => by simp only [List.mem_cons, List.not_mem_nil, or_false] at hk; subst hk; rw [hB5] at hc; cases hc; decide)
  have hA6 := (t6.block A (Kg.heap_lt hA5) (by simp)).trans hA5
  clear hvr V5 g1 g2 g3 g4 t6 T5 hA5 hB5 cB3 fz3
  generalize w5.setCell ⟨A + 1, 3, none⟩ (.slice ar (Im.fins (Im.wObs 0 y.2.1)).length cr) = w6 at *
  have hlw : Laid w6 := HL.out w6 (T6.out.below (by omega) (by simp; omega))
  obtain ⟨os, ts, G1, G2, G3⟩ := grd_of V6.1 V6.2.1 V6.2.2.1 V6.2.2.2.1 (Lrd.of_row V6.2.2.2.2) hok.out (by omega)
  have hC := iCheck_any w6.heap.size w6 _ _ _ _ _ os ts _ G1 (Nat.le_refl _) hlw G3
  have hnx : (0 + (y.1 : Int)) % 18446744073709551616 = ((Im.wNG y).next : Int) := by
    have : (Im.wNG y).next = y.1 % 18446744073709551616 := rfl
    omega
  rw [hnx] at hB6
  have hB6 : w6.heap[A + 1]? = some (.cells (gcs vo vs vh (.slice ar (Im.fins (Im.wObs 0 y.2.1)).length cr) vq ((Im.wNG y).next : Int)) 28 (0, 0)) := hB6
  have V6 : Hid (Vall y vo vs vh (.slice ar (Im.fins (Im.wObs 0 y.2.1)).length cr) vq w6) := V6
  have HG : Hid (Grd w6.heap.size w6 vo vs vh (.slice ar (Im.fins (Im.wObs 0 y.2.1)).length cr) vq os ts (Im.wNG y) ∧ gsz os ts (Im.wNG y) ≤ bs.length) := ⟨G1, Nat.le_trans G2 hsz⟩
  clear G1 G2 G3 hnx hlw
  obtain ⟨aa, ac, rfl, -⟩ := HG.out.1.ob
  obtain ⟨ba, bc, rfl, -⟩ := HG.out.1.sl
  obtain ⟨ca, cc, rfl, -, -⟩ := HG.out.1.hs
  obtain ⟨ea, ec, rfl, -, -⟩ := HG.out.1.qu
  generalize hlr : (Im.fins (Im.wObs 0 y.2.1)).length = lr at *
  generalize hlh : (Im.wNG y).hs.length = lh at *
  generalize hlq : (Im.wNG y).qu.length = lq at *
  clear hlr hlh hlq HG
  generalize hN : ((Im.wNG y).next : Int) = N at hB6 hC
  have hN : Hid (((Im.wNG y).next : Int) = N) := hN
  have y0 := (Kg.heap_cell hB6 0).trans (show _ = some (.slice aa os.length ac) from rfl)
  have y1 := (Kg.heap_cell hB6 1).trans (show _ = some (.slice ba ts.length bc) from rfl)
  have y2 := (Kg.heap_cell hB6 2).trans (show _ = some (.slice ca lh cc) from rfl)
  have y3 := (Kg.heap_cell hB6 3).trans (show _ = some (.slice ar lr cr) from rfl)
  have y4 := (Kg.heap_cell hB6 4).trans (show _ = some (.slice ea lq ec) from rfl)
  have y5 := (Kg.heap_cell hB6 5).trans (show _ = some (.int .u64 N) from rfl)
  go_wp2_with fail
  refine hC.mono ?_
  rintro e w7 ⟨rr, rfl, b7, h7⟩
  clear hC y0 y1 y2 y3 y4 y5
  have T7 : Hid (Kg.Touch [R] w w7) := T6.out.trans (Kg.Touch.of_below b7 _)
  rcases h7 with ⟨rfl, hMB⟩ | ⟨rfl, hMB⟩
  · have hMB : Hid (MB (Im.wNG y)) := hMB
    have hA7 := (b7.block A (Kg.heap_lt hA6)).trans hA6
    have hB7 := (b7.block (A + 1) (Kg.heap_lt hB6)).trans hB6
    have y0 := (Kg.heap_cell hB7 0).trans (show _ = some (.slice aa os.length ac) from rfl)
    have y1 := (Kg.heap_cell hB7 1).trans (show _ = some (.slice ba ts.length bc) from rfl)
    have y2 := (Kg.heap_cell hB7 2).trans (show _ = some (.slice ca lh cc) from rfl)
    have y3 := (Kg.heap_cell hB7 3).trans (show _ = some (.slice ar lr cr) from rfl)
    have y4 := (Kg.heap_cell hB7 4).trans (show _ = some (.slice ea lq ec) from rfl)
    have y5 := (Kg.heap_cell hB7 5).trans (show _ = some (.int .u64 N) from rfl)
    have V7 : Hid (Vall y (.slice aa os.length ac) (.slice ba ts.length bc) (.slice ca lh cc) (.slice ar lr cr) (.slice ea lq ec) w7) := V6.out.st (Kg.Touch.of_below b7 []) (fun k hk => by cases hk)
    have HA7 : Hid (w7.heap[A]? = some (.cells (gr6 (.slice none 0 0) (.slice none 0 0) (.slice none 0 0) (.slice none 0 0) 0) 28 (0, 0))) := hA7
    clear b7 hA6 hB6 V6
    have z0 := (Kg.heap_cell hA7 0).trans (show _ = some (.slice none 0 0) from rfl)
    have z1 := (Kg.heap_cell hA7 1).trans (show _ = some (.slice none 0 0) from rfl)
    have z2 := (Kg.heap_cell hA7 2).trans (show _ = some (.slice none 0 0) from rfl)
    have z3 := (Kg.heap_cell hA7 3).trans (show _ = some (.slice none 0 0) from rfl)
    have z4 := (Kg.heap_cell hA7 4).trans (show _ = some (.slice none 0 0) from rfl)
    have z5 := (Kg.heap_cell hA7 5).trans (show _ = some (.int .u64 0) from rfl)
    have f0 := Kg.heap_frozen hA7 0
    have f1 := Kg.heap_frozen hA7 1
    have f2 := Kg.heap_frozen hA7 2
    have f3 := Kg.heap_frozen hA7 3
    have f4 := Kg.heap_frozen hA7 4
    have f5 := Kg.heap_frozen hA7 5
    go_wp2
    clear y0 y1 y2 y3 y4 y5 z0 z1 z2 z3 z4 z5 f0 f1 f2 f3 f4 f5
    have s0 := Kg.heap_set HA7.out 0 (.slice aa os.length ac)
    have s1 := Kg.heap_set s0 1 (.slice ba ts.length bc)
    have s2 := Kg.heap_set s1 2 (.slice ca lh cc)
    have s3 := Kg.heap_set s2 3 (.slice ar lr cr)
    have s4 := Kg.heap_set s3 4 (.slice ea lq ec)
    have s5 := Kg.heap_set s4 5 (.int .u64 N)
    have s5 : ((((((w7.setCell ⟨A, 0, none⟩ (.slice aa os.length ac)).setCell ⟨A, 1, none⟩ (.slice ba ts.length bc)).setCell ⟨A, 2, none⟩ (.slice ca lh cc)).setCell ⟨A, 3, none⟩ (.slice ar lr cr)).setCell ⟨A, 4, none⟩ (.slice ea lq ec)).setCell ⟨A, 5, none⟩ (.int .u64 N)).heap[A]? = some (.cells (gcs (.slice aa os.length ac) (.slice ba ts.length bc) (.slice ca lh cc) (.slice ar lr cr) (.slice ea lq ec) N) 28 (0, 0)) := s5
    have t8 : Kg.Touch [A] w7 ((((((w7.setCell ⟨A, 0, none⟩ (.slice aa os.length ac)).setCell ⟨A, 1, none⟩ (.slice ba ts.length bc)).setCell ⟨A, 2, none⟩ (.slice ca lh cc)).setCell ⟨A, 3, none⟩ (.slice ar lr cr)).setCell ⟨A, 4, none⟩ (.slice ea lq ec)).setCell ⟨A, 5, none⟩ (.int .u64 N)) := ((((((Kg.Touch.setCell _ _ _ (by simp) : Kg.Touch [A] w7 (w7.setCell ⟨A, 0, none⟩ (.slice aa os.length ac)))).trans (Kg.Touch.setCell _ _ _ (by simp) : Kg.Touch [A] (w7.setCell ⟨A, 0, none⟩ (.slice aa os.length ac)) ((w7.setCell ⟨A, 0, none⟩ (.slice aa os.length ac)).setCell ⟨A, 1, none⟩ (.slice ba ts.length bc)))).trans (Kg.Touch.setCell _ _ _ (by simp) : Kg.Touch [A] ((w7.setCell ⟨A, 0, none⟩ (.slice aa os.length ac)).setCell ⟨A, 1, none⟩ (.slice ba ts.length bc)) (((w7.setCell ⟨A, 0, none⟩ (.slice aa os.length ac)).setCell ⟨A, 1, none⟩ (.slice ba ts.length bc)).setCell ⟨A, 2, none⟩ (.slice ca lh cc)))).trans (Kg.Touch.setCell _ _ _ (by simp) : Kg.Touch [A] (((w7.setCell ⟨A, 0, none⟩ (.slice aa os.length ac)).setCell ⟨A, 1, none⟩ (.slice ba ts.length bc)).setCell ⟨A, 2, none⟩ (.slice ca lh cc)) ((((w7.setCell ⟨A, 0, none⟩ (.slice aa os.length ac)).setCell ⟨A, 1, none⟩ (.slice ba ts.length bc)).setCell ⟨A, 2, none⟩ (.slice ca lh cc)).setCell ⟨A, 3, none⟩ (.slice ar lr cr)))).trans (Kg.Touch.setCell _ _ _ (by simp) : Kg.Touch [A] ((((w7.setCell ⟨A, 0, none⟩ (.slice aa os.length ac)).setCell ⟨A, 1, none⟩ (.slice ba ts.length bc)).setCell ⟨A, 2, none⟩ (.slice ca lh cc)).setCell ⟨A, 3, none⟩ (.slice ar lr cr)) (((((w7.setCell ⟨A, 0, none⟩ (.slice aa os.length ac)).setCell ⟨A, 1, none⟩ (.slice ba ts.length bc)).setCell ⟨A, 2, none⟩ (.slice ca lh cc)).setCell ⟨A, 3, none⟩ (.slice ar lr cr)).setCell ⟨A, 4, none⟩ (.slice ea lq ec)))).trans (Kg.Touch.setCell _ _ _ (by simp) : Kg.Touch [A] (((((w7.setCell ⟨A, 0, none⟩ (.slice aa os.length ac)).setCell ⟨A, 1, none⟩ (.slice ba ts.length bc)).setCell ⟨A, 2, none⟩ (.slice ca lh cc)).setCell ⟨A, 3, none⟩ (.slice ar lr cr)).setCell ⟨A, 4, none⟩ (.slice ea lq ec)) ((((((w7.setCell ⟨A, 0, none⟩ (.slice aa os.length ac)).setCell ⟨A, 1, none⟩ (.slice ba ts.length bc)).setCell ⟨A, 2, none⟩ (.slice ca lh cc)).setCell ⟨A, 3, none⟩ (.slice ar lr cr)).setCell ⟨A, 4, none⟩ (.slice ea lq ec)).setCell ⟨A, 5, none⟩ (.int .u64 N)))
    generalize ((((((w7.setCell ⟨A, 0, none⟩ (.slice aa os.length ac)).setCell ⟨A, 1, none⟩ (.slice ba ts.length bc)).setCell ⟨A, 2, none⟩ (.slice ca lh cc)).setCell ⟨A, 3, none⟩ (.slice ar lr cr)).setCell ⟨A, 4, none⟩ (.slice ea lq ec)).setCell ⟨A, 5, none⟩ (.int .u64 N)) = w8 at *
    clear s0 s1 s2 s3 s4
    have T8 : Kg.Touch [R] w w8 := ⟨t8.os.trans T7.out.os, t8.tape.trans T7.out.tape, t8.output.trans T7.out.output, Nat.le_trans T7.out.size t8.size, fun k hk hn => (t8.block k (by have := T7.out.size; omega) (by simp; omega)).trans (T7.out.block k hk hn)⟩
    have V8 := V7.out.st t8 (fun k hk cs t' hc => by simp only [List.mem_cons, List.not_mem_nil, or_false] at hk; subst hk; rw [HA7.out] at hc; cases hc; decide)
    refine bodyPost_ret (v := .agg (gcs (.slice aa os.length ac) (.slice ba ts.length bc) (.slice ca lh cc) (.slice ar lr cr) (.slice ea lq ec) N)) ?_ rfl ⟨T8, ?_⟩
    · have y0 := (Kg.heap_cell s5 0).trans (show _ = some (.slice aa os.length ac) from rfl)
      have y1 := (Kg.heap_cell s5 1).trans (show _ = some (.slice ba ts.length bc) from rfl)
      have y2 := (Kg.heap_cell s5 2).trans (show _ = some (.slice ca lh cc) from rfl)
      have y3 := (Kg.heap_cell s5 3).trans (show _ = some (.slice ar lr cr) from rfl)
      have y4 := (Kg.heap_cell s5 4).trans (show _ = some (.slice ea lq ec) from rfl)
      have y5 := (Kg.heap_cell s5 5).trans (show _ = some (.int .u64 N) from rfl)
      simp [results, Tryz.results21, go_sem, y0, y1, y2, y3, y4, y5]
    · unfold Gres
      rw [Hd.out]
      exact .inr ⟨hMB.out, _, _, _, _, _, by rw [hN.out], V8⟩
  · have hG := give_any 0 164 w7
    clear b7
    go_wp2_with fail
    refine hG.mono ?_
    rintro e w8 ⟨rfl, rfl⟩
    exact ⟨rfl, T7.out, by unfold Gres; rw [Hd.out]; exact .inl ⟨hMB, rfl⟩⟩

end Go.Proofs.YtblbiikfipcbcaaGreatDoor

/-
  Images, the reader: Read, with what it throws.
-/
set_option linter.unusedVariables false
set_option maxRecDepth 20000
namespace Go.Proofs.YtblbiikfipcbcaaGreatDoor
open Go.RowKit Go.Shelf

theorem ta_fault (v : Value) (w : World) : (Instr.typeAssert (.iface 67 v) 20 67 true).run Tryz.prog w = .ok (.tuple #[v, .bool true]) w := by kernel_rfl

set_option maxHeartbeats 4000000 in
theorem caught_fault (pl why : Int) (w : World) : Calls Tryz.prog 20 #[.iface 67 (.agg #[.int .i64 pl, .int .i64 why])] w fun e w' => e = .returned (.agg #[.int .i64 pl, .int .i64 why]) ∧ Below w.heap.size w w' := by
  have ta := fun w => ta_fault (.agg #[.int .i64 pl, .int .i64 why]) w
  go_enter Tryz.func20, Tryz.ntmps20
  go_wp2
  refine bodyPost_ret (by simp [results, Tryz.results20, go_sem]; try rfl) rfl ?_
  exact ⟨rfl, Below.alloc (Below.alloc (Below.refl _ _) (Nat.le_refl _) _) (by simp) _⟩

set_option maxHeartbeats 4000000 in
theorem caught_nil (w : World) : Calls Tryz.prog 20 #[.nilIface] w fun e w' => e = .returned (.agg #[.int .i64 0, .int .i64 0]) ∧ Below w.heap.size w w' := by
  go_enter Tryz.func20, Tryz.ntmps20
  go_wp2
  refine bodyPost_ret (by simp [results, Tryz.results20, go_sem]; try rfl) rfl ?_
  exact ⟨rfl, Below.alloc (Below.refl _ _) (Nat.le_refl _) _⟩

end Go.Proofs.YtblbiikfipcbcaaGreatDoor

