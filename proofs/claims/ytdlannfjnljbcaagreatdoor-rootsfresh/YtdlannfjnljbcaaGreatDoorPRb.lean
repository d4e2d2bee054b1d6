import Derived.Test.YtdlannfjnljbcaaGreatDoorR7
import Derived.Laws.StructEq
/-
  slices.Clone of numbers; Frames; the top frame; Get, Set.
-/
set_option linter.unusedVariables false
namespace Go.Proofs.YtdlannfjnljbcaaGreatDoor
open Go.RowKit

set_option maxRecDepth 20000 in
set_option maxHeartbeats 1000000 in
theorem clone_own (base n : Nat) (v : Value) (xs : List Int) (w : World) (hr : w.ownsRow base 3 1 v n (ints xs)) (hn : n < 8796093022208) :
    Calls Tryz.prog 33 #[v] w fun e w' => ∃ v', e = .returned v' ∧ w'.ownsRow w.heap.size 3 1 v' n (ints xs) ∧ Below w.heap.size w w' := by
  obtain ⟨i0, hi0, hz0, hz1, hz2⟩ := info_parts Tryz.infoInt
  have hl := hr.1
  rcases hr.2 with ⟨rfl, rfl⟩ | ⟨g, cap, cur, rfl, -⟩
  · have hx : ints xs = [] := List.eq_nil_of_length_eq_zero (by simpa using hl)
    rw [hx]
    have hnil : ∀ w, (binOp .eql 33 (.slice none 0 0) (.slice none 0 0)).run Tryz.prog w = .ok (.bool true) w := fun w => by first | rfl | kernel_rfl | (simp [binOp, go_sem]; done)
    clear hr hl hx hi0 hz0 hz1 hz2
    go_enter Tryz.func33, Tryz.ntmps33
    go_wp2
    go_ret
    exact ⟨_, rfl, World.ownsRow_nil _ _ _ _, Below.refl _ _⟩
  · have hnil : ∀ w, (binOp .eql 33 (.slice (some ⟨g, 0, none⟩) n cap) (.slice none 0 0)).run Tryz.prog w = .ok (.bool false) w := fun w => by first | rfl | kernel_rfl | (simp [binOp, go_sem]; done)
    have HN : Hid (∀ j u, (ints xs)[j]? = some u → (w.alloc (.cells #[] 3)).cell? ((⟨g, 0, none⟩ : Addr).add j) = some u) := (hr.alloc (.cells #[] 3)).cells (g := g) rfl
    have HO : Hid (∀ u ∈ ints xs, u.oneCell' = true) := fun u hu => by
      obtain ⟨i, -, rfl⟩ := List.mem_map.1 hu; rfl
    have HL : Hid ((ints xs).length = n * 1) := hl
    have HH : Hid ((Tryz.prog.info? 3 = some i0) ∧ i0.zero = some (.int .i64 0) ∧ i0.size = 1 ∧ i0.bytes = 8) := ⟨hi0, hz0, hz1, hz2⟩
    have HW : Hid ((w.alloc (.cells #[] 3)).ownsRow w.heap.size 3 1 (.slice (some ⟨w.heap.size, 0, none⟩) 0 0) 0 []) :=
      ⟨rfl, .inr ⟨w.heap.size, 0, #[], rfl, Nat.le_refl _, heap_alloc_new w _, Nat.le_refl _, by decide, rfl, rfl⟩⟩
    have hb1 : Below w.heap.size w (w.alloc (.cells #[] 3)) := Below.alloc (Below.refl _ _) (Nat.le_refl _) _
    have Hn : Hid (n < 8796093022208) := hn
    clear hr hi0 hz0 hz1 hz2 hl hn
    go_enter Tryz.func33, Tryz.ntmps33
    go_wp2_with (at_builtin; refine wpList_append_own_at _ rfl _ _ 33 rfl w.heap.size 3 i0 (.int .i64 0) 1 8 Tryz.underlying33 HH.out.1 HH.out.2.1 HH.out.2.2.1 HH.out.2.2.2 rfl (by decide) _ _ _ rfl HW.out ⟨g, 0, none⟩ n cap (ints xs) rfl HL.out HN.out HO.out (by have := Hn.out; simp [maxLen]; omega) (by have := Hn.out; omega) (by simp) ?_)
    intro v' w2 ho hg _ _
    have hb2 : Below w.heap.size w w2 := hb1.grown hg hb1.size (fun k e => by simp [Value.ownBlock] at e; omega)
    have ho2 : w2.ownsRow w.heap.size 3 1 v' n (ints xs) := by simpa using ho
    obtain ⟨a, c, rfl⟩ := own_slice ho2
    have HO2 : Hid (w2.ownsRow w.heap.size 3 1 (.slice a n c) n (ints xs)) := ho2
    clear ho hg hb1 ho2
    go_wp2
    go_ret
    exact ⟨_, rfl, HO2.out, hb2⟩

/-- What Frames tells. -/
def Sta.frames (S : Sta) (t : Int) : List Int := if 0 ≤ t ∧ t < S.T then S.rw (t.toNat * 2) else []

theorem frames_in (base b g T cap t n : Nat) (v : Value) (xs : List Int) (w : World) (h0 : w.cell? ⟨b, 0, none⟩ = some (.slice (some ⟨g, 0, none⟩) T cap)) (ht : t < T) (hT : T ≤ 8) (h1 : w.cell? ⟨g, t * 2, none⟩ = some v)
    (hr : w.ownsRow base 3 1 v n (ints xs)) (hn : n < 8796093022208) :
    Calls Tryz.prog 11 #[.pointer (some ⟨b, 0, none⟩), .int .i64 t] w fun e w' => ∃ v', e = .returned v' ∧ w'.ownsRow w.heap.size 3 1 v' n (ints xs) ∧ Below w.heap.size w w' := by
  have hth := thread_in b g T t cap w h0 ht hT
  have hcl := clone_own base n v xs w hr hn
  obtain ⟨a, c, rfl⟩ := own_slice hr
  clear hr hn
  go_enter Tryz.func11, Tryz.ntmps11
  go_wp2_with fail
  refine hth.mono ?_
  rintro e w' ⟨rfl, rfl⟩
  go_wp2_with fail
  refine hcl.mono ?_
  rintro e w1 ⟨v', rfl, ho, hb⟩
  clear hth hcl
  obtain ⟨a', c', rfl⟩ := own_slice ho
  go_wp2
  go_ret
  exact ⟨_, rfl, ho, hb⟩

theorem frames_out (b g T cap : Nat) (t : Int) (w : World) (h0 : w.cell? ⟨b, 0, none⟩ = some (.slice (some ⟨g, 0, none⟩) T cap)) (ht : ¬ (0 ≤ t ∧ t < T)) (hT : T ≤ 8) :
    Calls Tryz.prog 11 #[.pointer (some ⟨b, 0, none⟩), .int .i64 t] w fun e w' => e = .returned (.slice none 0 0) ∧ w = w' := by
  have hth := thread_out b g T cap t w h0 ht hT
  clear ht
  go_enter Tryz.func11, Tryz.ntmps11
  go_wp2_with fail
  refine hth.mono ?_
  rintro e w' ⟨rfl, rfl⟩
  go_wp2
  go_ret
  exact ⟨rfl, rfl⟩

theorem frames_any (base b N : Nat) (t : Int) (S : Sta) (F : List Nat) (w : World) (H : Rts w base b N S F) (hO : S.Ok) :
    Calls Tryz.prog 11 #[.pointer (some ⟨b, 0, none⟩), .int .i64 t] w fun e w' => ∃ v', e = .returned v' ∧ w'.ownsRow w.heap.size 3 1 v' (S.frames t).length (ints (S.frames t)) ∧ Below w.heap.size w w' := by
  obtain ⟨g, h, q, FQ, vs, H, rfl⟩ := H
  by_cases ht : 0 ≤ t ∧ t < S.T
  · obtain ⟨t, rfl⟩ := Int.eq_ofNat_of_zero_le ht.1
    have ht2 : t < S.T := by omega
    have e : S.frames t = S.rw (t * 2) := by unfold Sta.frames; rw [if_pos ht]; rfl
    rw [e]
    have := hO.frames ht2
    exact frames_in base b g S.T S.T t _ _ _ w H.c0 ht2 hO.T8 (H.thr.cell (by omega)) (H.row (t * 2) (by omega)) (by omega)
  · have e : S.frames t = [] := by unfold Sta.frames; rw [if_neg ht]
    rw [e]
    refine (frames_out b g S.T S.T t w H.c0 ht hO.T8).mono ?_
    rintro e' w' ⟨rfl, rfl⟩
    exact ⟨_, rfl, World.ownsRow_nil _ _ _ _, Below.refl _ _⟩

end Go.Proofs.YtdlannfjnljbcaaGreatDoor

/-
  The top frame; Get, Set.
-/
set_option linter.unusedVariables false
namespace Go.Proofs.YtdlannfjnljbcaaGreatDoor
open Go.RowKit

set_option maxRecDepth 20000 in
theorem fw_e51 (b g T cap : Nat) (t i : Int) (w : World) (h0 : w.cell? ⟨b, 0, none⟩ = some (.slice (some ⟨g, 0, none⟩) T cap)) (hn : ¬ (0 ≤ t ∧ t < T)) (hT : T ≤ 8) :
    Calls Tryz.prog 51 #[.pointer (some ⟨b, 0, none⟩), .int .i64 t, .int .i64 i] w fun e w' => e = .returned (.tuple #[.slice none 0 0, .int .i64 51]) ∧ ∃ nq, w' = w.drewN nq := by
  have hth := thread_out b g T cap t w h0 hn hT
  clear hn
  go_enter Tryz.func51, Tryz.ntmps51
  go_wp2_with fail
  refine hth.mono ?_
  rintro e w' ⟨rfl, rfl⟩
  go_wp2
  go_ret2
  exact ⟨rfl, 0, rfl⟩

set_option maxRecDepth 20000 in
theorem fw_e54 (b g T cap t c : Nat) (a : Option Addr) (i : Int) (w : World) (h0 : w.cell? ⟨b, 0, none⟩ = some (.slice (some ⟨g, 0, none⟩) T cap)) (h1 : w.cell? ⟨g, t * 2, none⟩ = some (.slice a 0 c)) (ht : t < T) (hT : T ≤ 8) :
    Calls Tryz.prog 51 #[.pointer (some ⟨b, 0, none⟩), .int .i64 t, .int .i64 i] w fun e w' => e = .returned (.tuple #[.slice none 0 0, .int .i64 54]) ∧ ∃ nq, w' = w.drewN nq := by
  have hth := thread_in b g T t cap w h0 ht hT
  have htop := top_none g (t * 2) w a c h1
  go_enter Tryz.func51, Tryz.ntmps51
  go_wp2_with fail
  refine hth.mono ?_
  rintro e w' ⟨rfl, rfl⟩
  go_wp2_with fail
  refine htop.mono ?_
  rintro e w' ⟨rfl, rfl⟩
  go_wp2
  go_ret2
  exact ⟨rfl, 0, rfl⟩

set_option maxRecDepth 20000 in
theorem fw_in (b g T cap t a k c s n m d : Nat) (i : Int) (w : World) (h0 : w.cell? ⟨b, 0, none⟩ = some (.slice (some ⟨g, 0, none⟩) T cap)) (ht : t < T) (hT : T ≤ 8)
    (h1 : w.cell? ⟨g, t * 2, none⟩ = some (.slice (some ⟨a, 0, none⟩) (k + 1) c)) (h2 : w.cell? ⟨g, t * 2 + 1, none⟩ = some (.slice (some ⟨s, 0, none⟩) (n + m) d))
    (h3 : w.cell? ⟨a, k, none⟩ = some (.int .i64 m)) (hm : 0 < m) (hn : n + m ≤ 4096) (hk : k < 4096) (hd : n + m ≤ d) :
    Calls Tryz.prog 51 #[.pointer (some ⟨b, 0, none⟩), .int .i64 t, .int .i64 i] w fun e w' => e = .returned (if 0 ≤ i ∧ i < m then .tuple #[.slice (some ⟨s, n, none⟩) m (d - n), .int .i64 0] else .tuple #[.slice none 0 0, .int .i64 52]) ∧ ∃ nq, w' = w.drewN nq := by
  have hth := thread_in b g T t cap w h0 ht hT
  have htop := top_some g (t * 2) a k c s n m d w h1 h2 h3 hm hn hk hd
  have hz : ((m : Int) == 0) = false := by simp; omega
  have hwi := fun q => within_any i 0 ((m : Int) - 1) (w.drewN q)
  by_cases hi : 0 ≤ i ∧ i < m
  · rw [if_pos hi]
    rw [show decide ((0 : Int) ≤ i ∧ i ≤ (m : Int) - 1) = true by simp; omega] at hwi
    have Hb : Hid (0 < m ∧ n + m ≤ 4096 ∧ k < 4096 ∧ n + m ≤ d) := ⟨hm, hn, hk, hd⟩
    clear hi
    go_enter Tryz.func51, Tryz.ntmps51
    go_wp2_with fail
    refine hth.mono ?_
    rintro e w' ⟨rfl, rfl⟩
    go_wp2_with fail
    refine htop.mono ?_
    rintro e w' ⟨rfl, nq, rfl⟩
    clear hth htop h0 h1 h2 h3
    go_wp2_with fail
    refine (hwi nq).mono ?_
    rintro e w' ⟨rfl, rfl⟩
    clear hwi
    go_wp2
    go_ret2
    exact ⟨rfl, nq, rfl⟩
  · rw [if_neg hi]
    rw [show decide ((0 : Int) ≤ i ∧ i ≤ (m : Int) - 1) = false by simp; omega] at hwi
    clear hi
    go_enter Tryz.func51, Tryz.ntmps51
    go_wp2_with fail
    refine hth.mono ?_
    rintro e w' ⟨rfl, rfl⟩
    go_wp2_with fail
    refine htop.mono ?_
    rintro e w' ⟨rfl, nq, rfl⟩
    clear hth htop h0 h1 h2 h3
    go_wp2_with fail
    refine (hwi nq).mono ?_
    rintro e w' ⟨rfl, rfl⟩
    clear hwi
    go_wp2
    go_ret2
    exact ⟨rfl, nq, rfl⟩

/-- The size of a thread's top frame. -/
def Sta.lastOf (S : Sta) (t : Int) : Nat := ((S.rw (t.toNat * 2)).getLastD 0).toNat

/-- What Get and Set answer for an error. -/
def Sta.slotE (S : Sta) (t i : Int) : Int := if 0 ≤ t ∧ t < S.T then (if S.rw (t.toNat * 2) = [] then 54 else if 0 ≤ i ∧ i < S.lastOf t then 0 else 52) else 51

/-- Where a slot of the top frame stands. -/
def Sta.slotAt (S : Sta) (t i : Int) : Nat := (S.rw (t.toNat * 2 + 1)).length - S.lastOf t + i.toNat

def Sta.getV (S : Sta) (t i : Int) : Int := if S.slotE t i = 0 then (S.rw (t.toNat * 2 + 1)).getD (S.slotAt t i) 0 else 0

def Sta.setS (S : Sta) (t i x : Int) : Sta := if S.slotE t i = 0 then { S with rw := upd S.rw (t.toNat * 2 + 1) ((S.rw (t.toNat * 2 + 1)).set (S.slotAt t i) (adr x)) } else S

/-- frameWith, whatever it is handed. -/
theorem fw_any (base b g h q N : Nat) (t i : Int) (FQ : List Nat) (vs : Nat → Value) (S : Sta) (w : World) (H : Rt w base b g h q N FQ vs S) (hO : S.Ok) :
    ∃ a len cap, Calls Tryz.prog 51 #[.pointer (some ⟨b, 0, none⟩), .int .i64 t, .int .i64 i] w (fun e w' => e = .returned (.tuple #[.slice a len cap, .int .i64 (S.slotE t i)]) ∧ ∃ nq, w' = w.drewN nq) ∧
      (S.slotE t i = 0 → 0 ≤ t ∧ t < S.T ∧ 0 ≤ i ∧ i < len ∧ S.slotAt t i < (S.rw (t.toNat * 2 + 1)).length ∧ ∃ s n d, a = some ⟨s, n, none⟩ ∧ vs (t.toNat * 2 + 1) = .slice (some ⟨s, 0, none⟩) (S.rw (t.toNat * 2 + 1)).length d ∧ n + i.toNat = S.slotAt t i) := by
  by_cases ht : 0 ≤ t ∧ t < S.T
  · obtain ⟨t, rfl⟩ := Int.eq_ofNat_of_zero_le ht.1
    have ht2 : t < S.T := by omega
    by_cases hn : S.rw (t * 2) = []
    · have e : S.slotE t i = 54 := by unfold Sta.slotE; rw [if_pos ht, if_pos]; exact hn
      obtain ⟨a, c, ea⟩ := own_slice (H.row (t * 2) (by omega))
      have d0 := H.thr.cell (i := t * 2) (by omega)
      rw [ea, hn] at d0
      exact ⟨none, 0, 0, by rw [e]; exact fw_e54 b g S.T S.T t c a i w H.c0 d0 ht2 hO.T8, fun h => by rw [e] at h; cases h⟩
    · obtain ⟨l, m, n, e1, h1, h2, h3, h4, h5⟩ := hO.last ht2 hn
      have hla : S.lastOf t = m := by unfold Sta.lastOf; simp [e1]
      have e : S.slotE t i = if 0 ≤ i ∧ i < (m : Int) then 0 else 52 := by
        unfold Sta.slotE
        rw [if_pos ht, hla, if_neg (show ¬ S.rw ((t : Int).toNat * 2) = [] from hn)]
      have r0 := H.row (t * 2) (by omega)
      have r1 := H.row (t * 2 + 1) (by omega)
      have d0 := H.thr.cell (i := t * 2) (by omega)
      have d1 := H.thr.cell (i := t * 2 + 1) (by omega)
      have el : (S.rw (t * 2)).length = l.length + 1 := by rw [e1]; simp
      rw [el] at r0
      rw [h2] at r1
      obtain ⟨a, c, ea, ca, -⟩ := own_addr r0 (by omega)
      obtain ⟨s, d, es, cs, -⟩ := own_addr r1 (by omega)
      have r0' := r0
      rw [ea] at d0 r0'
      rw [es] at d1
      have hcx : w.cell? ⟨a, l.length, none⟩ = some (.int .i64 m) := by
        rw [r0'.cellAt _ (by omega), e1]; simp
      have hf := fw_in b g S.T S.T t a l.length c s n m d i w H.c0 ht2 hO.T8 d0 d1 hcx h1 h5 (by omega) cs
      by_cases hi : 0 ≤ i ∧ i < (m : Int)
      · rw [if_pos hi] at hf e
        rw [e]
        refine ⟨_, _, _, hf, fun _ => ⟨ht.1, ht.2, hi.1, hi.2, ?_, s, n, d, rfl, ?_, ?_⟩⟩
        · unfold Sta.slotAt; rw [hla]; show _ < (S.rw (t * 2 + 1)).length; rw [show ((t : Int).toNat) = t from rfl, h2]; omega
        · show vs (t * 2 + 1) = _; rw [es]; show _ = Value.slice _ (S.rw (t * 2 + 1)).length d; rw [h2]
        · unfold Sta.slotAt; rw [hla, show ((t : Int).toNat) = t from rfl, h2]; omega
      · rw [if_neg hi] at hf e
        rw [e]
        exact ⟨_, _, _, hf, fun h => by cases h⟩
  · have e : S.slotE t i = 51 := by unfold Sta.slotE; rw [if_neg ht]
    exact ⟨none, 0, 0, by rw [e]; exact fw_e51 b g S.T S.T t i w H.c0 ht hO.T8, fun h => by rw [e] at h; cases h⟩

set_option maxRecDepth 20000 in
theorem set_no (b : Nat) (t i x E : Int) (a : Option Addr) (len cap : Nat) (w : World) (hE : E ≠ 0)
    (hf : Calls Tryz.prog 51 #[.pointer (some ⟨b, 0, none⟩), .int .i64 t, .int .i64 i] w (fun e w' => e = .returned (.tuple #[.slice a len cap, .int .i64 E]) ∧ ∃ nq, w' = w.drewN nq)) :
    Calls Tryz.prog 19 #[.pointer (some ⟨b, 0, none⟩), .int .i64 t, .int .i64 i, .int .i64 x] w fun e w' => e = .returned (.int .i64 E) ∧ ∃ nq, w' = w.drewN nq := by
  have hz : (E == 0) = false := by simpa using hE
  go_enter Tryz.func19, Tryz.ntmps19
  go_wp2_with fail
  refine hf.mono ?_
  rintro e w' ⟨rfl, nq, rfl⟩
  clear hf
  go_wp2
  go_ret
  exact ⟨rfl, nq, rfl⟩

set_option maxRecDepth 20000 in
theorem set_yes (b s n j len cap : Nat) (t x y : Int) (w : World) (hj : j < len) (hx : w.cell? ⟨s, n + j, none⟩ = some (.int .i64 y)) (hz : w.frozen? ⟨s, n + j, none⟩ = false)
    (hf : Calls Tryz.prog 51 #[.pointer (some ⟨b, 0, none⟩), .int .i64 t, .int .i64 j] w (fun e w' => e = .returned (.tuple #[.slice (some ⟨s, n, none⟩) len cap, .int .i64 0]) ∧ ∃ nq, w' = w.drewN nq)) :
    Calls Tryz.prog 19 #[.pointer (some ⟨b, 0, none⟩), .int .i64 t, .int .i64 j, .int .i64 x] w fun e w' => e = .returned (.int .i64 0) ∧ ∃ nq, w' = (w.drewN nq).setCell ⟨s, n + j, none⟩ (.int .i64 (adr x)) := by
  have hji : (j : Int) < (len : Int) := by omega
  go_enter Tryz.func19, Tryz.ntmps19
  go_wp2_with fail
  refine hf.mono ?_
  rintro e w' ⟨rfl, nq, rfl⟩
  clear hf
  go_wp2_with fail
  refine (address_any x _).mono ?_
  rintro e w' ⟨rfl, rfl⟩
  go_wp2
  go_ret
  exact ⟨rfl, nq, rfl⟩

theorem set_any (base b N : Nat) (t i x : Int) (S : Sta) (F : List Nat) (w : World) (H : Rts w base b N S F) (hO : S.Ok) :
    Calls Tryz.prog 19 #[.pointer (some ⟨b, 0, none⟩), .int .i64 t, .int .i64 i, .int .i64 x] w fun e w' => e = .returned (.int .i64 (S.slotE t i)) ∧ Rts w' base b N (S.setS t i x) F ∧ Touch F w w' := by
  obtain ⟨g, h, q, FQ, vs, H, rfl⟩ := H
  obtain ⟨a, len, cap, hf, hz⟩ := fw_any base b g h q N t i FQ vs S w H hO
  by_cases e : S.slotE t i = 0
  · obtain ⟨h1, h2, h3, h4, h5, s, n, d, rfl, h6, h7⟩ := hz e
    obtain ⟨j, rfl⟩ := Int.eq_ofNat_of_zero_le h3
    have r := H.row (t.toNat * 2 + 1) (by omega)
    have r' := r
    rw [h6] at r'
    obtain ⟨y, hy⟩ : ∃ y, (S.rw (t.toNat * 2 + 1))[S.slotAt t j]? = some y := ⟨_, List.getElem?_eq_getElem h5⟩
    have h8 : n + j = S.slotAt t j := h7
    have hc : w.cell? ⟨s, n + j, none⟩ = some (.int .i64 y) := by
      rw [h8, r'.cellAt _ (by omega)]; simp [hy]
    have hfz := r'.frozenAt (n + j)
    rw [e] at hf
    rw [e]
    refine (set_yes b s n j len cap t x y w (by omega) hc hfz hf).mono ?_
    rintro e' w' ⟨rfl, nq, rfl⟩
    have eS : S.setS t j x = { S with rw := upd S.rw (t.toNat * 2 + 1) ((S.rw (t.toNat * 2 + 1)).set (S.slotAt t j) (adr x)) } := by unfold Sta.setS; rw [if_pos e]
    have hst := ((show (w.drewN nq).ownsRow base 3 1 (.slice (some ⟨s, 0, none⟩) (S.rw (t.toNat * 2 + 1)).length d) _ _ from r').stored (n + j) (.int .i64 (adr x))).1
    have e1 : (ints (S.rw (t.toNat * 2 + 1))).set (n + j) (.int .i64 (adr x)) = ints ((S.rw (t.toNat * 2 + 1)).set (S.slotAt t j) (adr x)) := by simp [ints, List.map_set, h8]
    rw [e1] at hst
    have tt : Touch (vs (t.toNat * 2 + 1)).ownBlock.toList w ((w.drewN nq).setCell ⟨s, n + j, none⟩ (.int .i64 (adr x))) := (Touch.drewN _ w nq).trans (Touch.setCell _ _ _ (by rw [h6]; simp [Value.ownBlock]))
    refine ⟨rfl, ⟨g, h, q, FQ, vs, ?_, ?_⟩, tt.mono (fun k hk => .inl (mem_fp.2 (.inr (.inr (.inr (.inr ⟨t.toNat * 2 + 1, by omega, by simpa using hk⟩))))))⟩
    · rw [eS]
      exact H.setIn (by omega) tt (by simp) (by rw [h6, List.length_set]; exact hst)
    · rw [eS]
  · have eS : S.setS t i x = S := by unfold Sta.setS; rw [if_neg e]
    rw [eS]
    refine (set_no b t i x _ a len cap w e hf).mono ?_
    rintro e' w' ⟨rfl, nq, rfl⟩
    exact ⟨rfl, ⟨g, h, q, FQ, vs, H.touch (Touch.drewN [] _ _) (fun k _ h => by cases h), rfl⟩, Touch.drewN _ _ _⟩

theorem Sta.Ok.setS {S : Sta} (h : S.Ok) (t i x : Int) : (S.setS t i x).Ok := by
  unfold Sta.setS
  split
  · rename_i he
    have ht : 0 ≤ t ∧ t < S.T := by
      apply Classical.byContradiction; intro hn; unfold Sta.slotE at he; rw [if_neg hn] at he; cases he
    have hs := h.sum t.toNat (by omega)
    have hp := h.pos t.toNat (by omega)
    have hr := h.room t.toNat (by omega)
    have h0 := h.s0 t.toNat (by omega)
    have := h.turn t.toNat (S.rw (t.toNat * 2)) ((S.rw (t.toNat * 2 + 1)).set (S.slotAt t i) (adr x)) (by simpa using hs) hp (by simpa using hr) (by
      intro y hy
      rcases List.mem_or_eq_of_mem_set hy with h | rfl
      · exact h0 y h
      · exact adr_nn x)
    have e : upd S.rw (t.toNat * 2) (S.rw (t.toNat * 2)) = S.rw := by funext j; by_cases e : j = t.toNat * 2 <;> simp [upd, e]
    rw [e] at this
    exact this
  · exact h

end Go.Proofs.YtdlannfjnljbcaaGreatDoor

/-
  Handles: told, Index, isOpen, Handle, Close, Open.
-/
set_option linter.unusedVariables false
namespace Go.Proofs.YtdlannfjnljbcaaGreatDoor
open Go.RowKit

/-- Is handle i open; what it holds. -/
def hop (hs : List (Option Int)) (i : Nat) : Bool := match hs[i]? with | some (some _) => true | _ => false
def hat (hs : List (Option Int)) (i : Nat) : Int := match hs[i]? with | some (some x) => x | _ => 0

theorem hcell_even (hs : List (Option Int)) (i : Nat) : hcell hs (i * 2) = .bool (hop hs i) := by
  unfold hcell hop
  rw [show i * 2 / 2 = i by omega, show i * 2 % 2 = 0 by omega]
  split <;> simp_all

theorem hcell_odd (hs : List (Option Int)) (i : Nat) : hcell hs (i * 2 + 1) = .int .i64 (hat hs i) := by
  unfold hcell hat
  rw [show (i * 2 + 1) / 2 = i by omega, show (i * 2 + 1) % 2 = 1 by omega]
  split <;> simp_all

theorem eq_handle (o p : Bool) (a c : Int) (w : World) : (binOp .eql 72 (.agg #[.bool o, .int .i64 a]) (.agg #[.bool p, .int .i64 c])).run Tryz.prog w = .ok (.bool (o == p && a == c)) w := by
  rw [run_eql_struct, show (10000 : Nat) = 9999 + 1 from rfl, run_equalIn_struct w 9999 72 _ _ (by kernel_rfl) (by kernel_rfl)]
  cases o <;> cases p <;> simp [go_sem, Tryz.underlying72] <;> split <;> simp_all

theorem hat_closed {hs : List (Option Int)} {i : Nat} (h : hop hs i = false) : hat hs i = 0 := by
  unfold hop at h
  unfold hat
  split at h <;> simp_all

/-- The least handle that isn't open. -/
def least (hs : List (Option Int)) : Int := match hs.findIdx? Option.isNone with | some i => i | none => -1

theorem hop_iff {hs : List (Option Int)} {i : Nat} (hi : i < hs.length) : hop hs i = !(hs[i].isNone) := by
  unfold hop
  rw [List.getElem?_eq_getElem hi]
  cases hs[i] <;> rfl

theorem hop_t {hs : List (Option Int)} {i : Nat} (hi : i < hs.length) (h : hop hs i = true) : hs[i].isNone = false := by
  have := hop_iff hi
  rw [h] at this
  generalize hs[i] = o at *
  cases o
  · cases this
  · rfl

theorem hop_f {hs : List (Option Int)} {i : Nat} (hi : i < hs.length) (h : hop hs i = false) : hs[i].isNone = true := by
  have := hop_iff hi
  rw [h] at this
  generalize hs[i] = o at *
  cases o
  · rfl
  · cases this

theorem least_at {hs : List (Option Int)} {i : Nat} (hi : i < hs.length) (h : hop hs i = false) (hp : ∀ j, j < i → hop hs j = true) : least hs = i := by
  unfold least
  have : hs.findIdx? Option.isNone = some i := by
    rw [List.findIdx?_eq_some_iff_getElem]
    exact ⟨hi, hop_f hi h, fun j hj => by rw [hop_t (show j < hs.length by omega) (hp j hj)]; exact Bool.false_ne_true⟩
  rw [this]

theorem least_none {hs : List (Option Int)} (hp : ∀ j, j < hs.length → hop hs j = true) : least hs = -1 := by
  unfold least
  have : hs.findIdx? Option.isNone = none := by
    rw [List.findIdx?_eq_none_iff]
    intro x hx
    obtain ⟨j, hj, rfl⟩ := List.mem_iff_getElem.1 hx
    exact hop_t hj (hp j hj)
  rw [this]

set_option maxRecDepth 20000 in
set_option maxHeartbeats 1000000 in
theorem index_any (h : Nat) (hs : List (Option Int)) (w : World) (hr : w.rowIs h 72 (hs.length * 2) (hcell hs)) (hH : hs.length ≤ 1024) :
    Calls Tryz.prog 26 #[.slice (some ⟨h, 0, none⟩) hs.length hs.length, .agg #[.bool false, .int .i64 0]] w fun e w' => e = .returned (.int .i64 (least hs)) ∧ Below w.heap.size w w' := by
  have Hr : Hid (w.rowIs h 72 (hs.length * 2) (hcell hs)) := hr
  have hlt := hr.lt
  obtain ⟨L, hL⟩ : ∃ L, L = hs.length := ⟨_, rfl⟩
  have heq := fun (o : Bool) (a : Int) (w : World) => eq_handle false o 0 a w
  have hne : ¬ (h = w.heap.size) := by omega
  clear hr
  go_enter Tryz.func26, Tryz.ntmps26
  go_wp2
  have b0 : (w.alloc (.cells #[.bool false, .int .i64 0] 72)).cell? ⟨w.heap.size, 0, none⟩ = some (.bool false) := by simp
  have b1 : (w.alloc (.cells #[.bool false, .int .i64 0] 72)).cell? ⟨w.heap.size, 1, none⟩ = some (.int .i64 0) := by simp
  have HB : Hid (Below w.heap.size w (w.alloc (.cells #[.bool false, .int .i64 0] 72))) := Below.alloc (Below.refl _ _) (Nat.le_refl _) _
  have HR : Hid ((w.alloc (.cells #[.bool false, .int .i64 0] 72)).rowIs h 72 (hs.length * 2) (hcell hs)) := Hr.out.alloc _
  clear Hr
  generalize w.alloc (.cells #[.bool false, .int .i64 0] 72) = w1 at *
  go_loopw [8] (fun i wr => ∃ (k q : Nat), k ≤ hs.length ∧ i = .int .i64 k ∧ wr = w1.drewN q ∧ Hid (∀ j, j < k → hop hs j = true)) (fun i _ => hs.length - (intOf i).toNat)
  case atStart => exact ⟨0, 0, Nat.zero_le _, rfl, rfl, fun j hj => by omega⟩
  case round =>
    obtain ⟨k, q, hk, rfl, rfl, hp⟩ := hrel
    by_cases hlt : k < hs.length
    · have c0 := HR.out.cell (i := k * 2) (by omega)
      have c1 := HR.out.cell (i := k * 2 + 1) (by omega)
      rw [hcell_even] at c0
      rw [hcell_odd] at c1
      have hki : (k : Int) < (hs.length : Int) := by omega
      by_cases ho : hop hs k = true
      · rw [ho] at c0
        have hq := heq true (hat hs k)
        go_wp2
        go_quiet (fail)
        go_wp2
        go_roundw
        case rel => exact ⟨k + 1, _, hlt, by go_num, rfl, fun j hj => by
          by_cases e : j = k
          · rw [e]; exact ho
          · exact hp.out j (by omega)⟩
        case measure => simp [intOf]; omega
      · have ho' : hop hs k = false := by simpa using ho
        rw [ho'] at c0
        rw [hat_closed ho'] at c1
        have hq := heq false 0
        go_wp2
        go_quiet (fail)
        go_wp2
        go_ret
        exact ⟨by rw [least_at hlt ho' hp.out]; rfl, below_drewN (below_drewN HB.out _) _⟩
    · obtain rfl : k = hs.length := by omega
      go_wp2
      go_ret
      exact ⟨by rw [least_none hp.out]; rfl, below_drewN HB.out _⟩

set_option maxRecDepth 20000 in
theorem isOpen_any (b h : Nat) (hs : List (Option Int)) (i : Int) (w : World) (h0 : w.cell? ⟨b, 2, none⟩ = some (.slice (some ⟨h, 0, none⟩) hs.length hs.length)) (hr : w.rowIs h 72 (hs.length * 2) (hcell hs)) (hH : hs.length ≤ 1024) :
    Calls Tryz.prog 53 #[.pointer (some ⟨b, 0, none⟩), .int .i64 i] w fun e w' => e = .returned (.bool (decide (0 ≤ i) && hop hs i.toNat)) ∧ w = w' := by
  have hwi := within_any i 0 ((hs.length : Int) - 1) w
  by_cases hi : 0 ≤ i ∧ i < hs.length
  · obtain ⟨k, rfl⟩ := Int.eq_ofNat_of_zero_le hi.1
    rw [show decide ((0 : Int) ≤ (k : Int) ∧ (k : Int) ≤ (hs.length : Int) - 1) = true by simp; omega] at hwi
    have hki : (k : Int) < (hs.length : Int) := hi.2
    have c0 := hr.cell (i := k * 2) (by omega)
    rw [hcell_even] at c0
    have e : (decide ((0 : Int) ≤ (k : Int)) && hop hs (k : Int).toNat) = hop hs k := by simp
    rw [e]
    generalize hop hs k = o at *
    clear hr hi e
    go_enter Tryz.func53, Tryz.ntmps53
    go_wp2_with fail
    refine hwi.mono ?_
    rintro e w' ⟨rfl, rfl⟩
    clear hwi
    go_wp2
    go_ret
    exact ⟨rfl, rfl⟩
  · rw [show decide ((0 : Int) ≤ i ∧ i ≤ (hs.length : Int) - 1) = false by simp; omega] at hwi
    have e : (decide (0 ≤ i) && hop hs i.toNat) = false := by
      by_cases h1 : 0 ≤ i
      · have : hop hs i.toNat = false := by
          unfold hop
          rw [List.getElem?_eq_none (by omega)]
        simp [this]
      · simp [h1]
    rw [e]
    clear hr hi e
    go_enter Tryz.func53, Tryz.ntmps53
    go_wp2_with fail
    refine hwi.mono ?_
    rintro e w' ⟨rfl, rfl⟩
    clear hwi
    go_wp2
    go_ret
    exact ⟨rfl, rfl⟩

set_option maxRecDepth 20000 in
theorem close_walk (b h k : Nat) (o : Bool) (a : Int) (hs : List (Option Int)) (w : World) (h0 : w.cell? ⟨b, 2, none⟩ = some (.slice (some ⟨h, 0, none⟩) hs.length hs.length)) (hk : k < hs.length)
    (c0 : w.cell? ⟨h, k * 2, none⟩ = some (.bool o)) (c1 : w.cell? ⟨h, k * 2 + 1, none⟩ = some (.int .i64 a)) (f0 : w.frozen? ⟨h, k * 2, none⟩ = false) (f1 : w.frozen? ⟨h, k * 2 + 1, none⟩ = false)
    (hop : Calls Tryz.prog 53 #[.pointer (some ⟨b, 0, none⟩), .int .i64 k] w fun e w' => e = .returned (.bool true) ∧ w = w') :
    Calls Tryz.prog 22 #[.pointer (some ⟨b, 0, none⟩), .int .i64 k] w fun e w' => e = .returned (.int .i64 0) ∧ w' = (w.setCell ⟨h, k * 2, none⟩ (.bool false)).setCell ⟨h, k * 2 + 1, none⟩ (.int .i64 0) := by
  have hki : (k : Int) < (hs.length : Int) := by omega
  go_enter Tryz.func22, Tryz.ntmps22
  go_wp2_with fail
  refine hop.mono ?_
  rintro e w' ⟨rfl, rfl⟩
  go_wp2
  go_ret
  exact ⟨rfl, rfl⟩

end Go.Proofs.YtdlannfjnljbcaaGreatDoor

