/-
  The top frame; Get, Set.
-/
import Derived.Test.YtemdmpfifcihfaaR8
set_option linter.unusedVariables false
namespace Go.Proofs.Ytemdmpfifcihfaa
open Go.RowKit

set_option maxRecDepth 20000 in
theorem fw_e51 (b g T cap : Nat) (t i : Int) (w : World) (h0 : w.cell? ⟨b, 0, none⟩ = some (.slice (some ⟨g, 0, none⟩) T cap)) (hn : ¬ (0 ≤ t ∧ t < T)) (hT : T ≤ 8) :
    Calls Try.prog 44 #[.pointer (some ⟨b, 0, none⟩), .int .i64 t, .int .i64 i] w fun e w' => e = .returned (.tuple #[.slice none 0 0, .int .i64 51]) ∧ ∃ nq, w' = w.drewN nq := by
  have hth := thread_out b g T cap t w h0 hn hT
  clear hn
  go_enter Try.func44, Try.ntmps44
  go_wp2_with fail
  refine hth.mono ?_
  rintro e w' ⟨rfl, rfl⟩
  go_wp2
  go_ret2
  exact ⟨rfl, 0, rfl⟩

set_option maxRecDepth 20000 in
theorem fw_e54 (b g T cap t c : Nat) (a : Option Addr) (i : Int) (w : World) (h0 : w.cell? ⟨b, 0, none⟩ = some (.slice (some ⟨g, 0, none⟩) T cap)) (h1 : w.cell? ⟨g, t * 2, none⟩ = some (.slice a 0 c)) (ht : t < T) (hT : T ≤ 8) :
    Calls Try.prog 44 #[.pointer (some ⟨b, 0, none⟩), .int .i64 t, .int .i64 i] w fun e w' => e = .returned (.tuple #[.slice none 0 0, .int .i64 54]) ∧ ∃ nq, w' = w.drewN nq := by
  have hth := thread_in b g T t cap w h0 ht hT
  have htop := top_none g (t * 2) w a c h1
  go_enter Try.func44, Try.ntmps44
  go_wp2_with fail
  refine hth.mono ?_
  rintro e w' ⟨rfl, rfl⟩
  go_wp2_with fail
  refine htop.mono ?_
  rintro e w' ⟨rfl, rfl⟩
  go_wp2
  go_ret2
  exact ⟨rfl, 0, rfl⟩

set_option maxRecDepth 20000 in
theorem fw_in (b g T cap t a k c s n m d : Nat) (i : Int) (w : World) (h0 : w.cell? ⟨b, 0, none⟩ = some (.slice (some ⟨g, 0, none⟩) T cap)) (ht : t < T) (hT : T ≤ 8)
    (h1 : w.cell? ⟨g, t * 2, none⟩ = some (.slice (some ⟨a, 0, none⟩) (k + 1) c)) (h2 : w.cell? ⟨g, t * 2 + 1, none⟩ = some (.slice (some ⟨s, 0, none⟩) (n + m) d))
    (h3 : w.cell? ⟨a, k, none⟩ = some (.int .i64 m)) (hm : 0 < m) (hn : n + m ≤ 4096) (hk : k < 4096) (hd : n + m ≤ d) :
    Calls Try.prog 44 #[.pointer (some ⟨b, 0, none⟩), .int .i64 t, .int .i64 i] w fun e w' => e = .returned (if 0 ≤ i ∧ i < m then .tuple #[.slice (some ⟨s, n, none⟩) m (d - n), .int .i64 0] else .tuple #[.slice none 0 0, .int .i64 52]) ∧ ∃ nq, w' = w.drewN nq := by
  have hth := thread_in b g T t cap w h0 ht hT
  have htop := top_some g (t * 2) a k c s n m d w h1 h2 h3 hm hn hk hd
  have hz : ((m : Int) == 0) = false := by simp; omega
  have hwi := fun q => within_any i 0 ((m : Int) - 1) (w.drewN q)
  by_cases hi : 0 ≤ i ∧ i < m
  · rw [if_pos hi]
    rw [show decide ((0 : Int) ≤ i ∧ i ≤ (m : Int) - 1) = true by simp; omega] at hwi
    have Hb : Hid (0 < m ∧ n + m ≤ 4096 ∧ k < 4096 ∧ n + m ≤ d) := ⟨hm, hn, hk, hd⟩
    clear hi
    go_enter Try.func44, Try.ntmps44
    go_wp2_with fail
    refine hth.mono ?_
    rintro e w' ⟨rfl, rfl⟩
    go_wp2_with fail
    refine htop.mono ?_
    rintro e w' ⟨rfl, nq, rfl⟩
    clear hth htop h0 h1 h2 h3
    go_wp2_with fail
    refine (hwi nq).mono ?_
    rintro e w' ⟨rfl, rfl⟩
    clear hwi
    go_wp2
    go_ret2
    exact ⟨rfl, nq, rfl⟩
  · rw [if_neg hi]
    rw [show decide ((0 : Int) ≤ i ∧ i ≤ (m : Int) - 1) = false by simp; omega] at hwi
    clear hi
    go_enter Try.func44, Try.ntmps44
    go_wp2_with fail
    refine hth.mono ?_
    rintro e w' ⟨rfl, rfl⟩
    go_wp2_with fail
    refine htop.mono ?_
    rintro e w' ⟨rfl, nq, rfl⟩
    clear hth htop h0 h1 h2 h3
    go_wp2_with fail
    refine (hwi nq).mono ?_
    rintro e w' ⟨rfl, rfl⟩
    clear hwi
    go_wp2
    go_ret2
    exact ⟨rfl, nq, rfl⟩

/-- The size of a thread's top frame. -/
def Sta.lastOf (S : Sta) (t : Int) : Nat := ((S.rw (t.toNat * 2)).getLastD 0).toNat

/-- What Get and Set answer for an error. -/
def Sta.slotE (S : Sta) (t i : Int) : Int := if 0 ≤ t ∧ t < S.T then (if S.rw (t.toNat * 2) = [] then 54 else if 0 ≤ i ∧ i < S.lastOf t then 0 else 52) else 51

/-- Where a slot of the top frame stands. -/
def Sta.slotAt (S : Sta) (t i : Int) : Nat := (S.rw (t.toNat * 2 + 1)).length - S.lastOf t + i.toNat

def Sta.getV (S : Sta) (t i : Int) : Int := if S.slotE t i = 0 then (S.rw (t.toNat * 2 + 1)).getD (S.slotAt t i) 0 else 0

def Sta.setS (S : Sta) (t i x : Int) : Sta := if S.slotE t i = 0 then { S with rw := upd S.rw (t.toNat * 2 + 1) ((S.rw (t.toNat * 2 + 1)).set (S.slotAt t i) (adr x)) } else S

/-- frameWith, whatever it is handed. -/
theorem fw_any (base b g h q N : Nat) (t i : Int) (FQ : List Nat) (vs : Nat → Value) (S : Sta) (w : World) (H : Rt w base b g h q N FQ vs S) (hO : S.Ok) :
    ∃ a len cap, Calls Try.prog 44 #[.pointer (some ⟨b, 0, none⟩), .int .i64 t, .int .i64 i] w (fun e w' => e = .returned (.tuple #[.slice a len cap, .int .i64 (S.slotE t i)]) ∧ ∃ nq, w' = w.drewN nq) ∧
      (S.slotE t i = 0 → 0 ≤ t ∧ t < S.T ∧ 0 ≤ i ∧ i < len ∧ S.slotAt t i < (S.rw (t.toNat * 2 + 1)).length ∧ ∃ s n d, a = some ⟨s, n, none⟩ ∧ vs (t.toNat * 2 + 1) = .slice (some ⟨s, 0, none⟩) (S.rw (t.toNat * 2 + 1)).length d ∧ n + i.toNat = S.slotAt t i) := by
  by_cases ht : 0 ≤ t ∧ t < S.T
  · obtain ⟨t, rfl⟩ := Int.eq_ofNat_of_zero_le ht.1
    have ht2 : t < S.T := by omega
    by_cases hn : S.rw (t * 2) = []
    · have e : S.slotE t i = 54 := by unfold Sta.slotE; rw [if_pos ht, if_pos]; exact hn
      obtain ⟨a, c, ea⟩ := own_slice (H.row (t * 2) (by omega))
      have d0 := H.thr.cell (i := t * 2) (by omega)
      rw [ea, hn] at d0
      exact ⟨none, 0, 0, by rw [e]; exact fw_e54 b g S.T S.T t c a i w H.c0 d0 ht2 hO.T8, fun h => by rw [e] at h; cases h⟩
    · obtain ⟨l, m, n, e1, h1, h2, h3, h4, h5⟩ := hO.last ht2 hn
      have hla : S.lastOf t = m := by unfold Sta.lastOf; simp [e1]
      have e : S.slotE t i = if 0 ≤ i ∧ i < (m : Int) then 0 else 52 := by
        unfold Sta.slotE
        rw [if_pos ht, hla, if_neg (show ¬ S.rw ((t : Int).toNat * 2) = [] from hn)]
      have r0 := H.row (t * 2) (by omega)
      have r1 := H.row (t * 2 + 1) (by omega)
      have d0 := H.thr.cell (i := t * 2) (by omega)
      have d1 := H.thr.cell (i := t * 2 + 1) (by omega)
      have el : (S.rw (t * 2)).length = l.length + 1 := by rw [e1]; simp
      rw [el] at r0
      rw [h2] at r1
      obtain ⟨a, c, ea, ca, -⟩ := own_addr r0 (by omega)
      obtain ⟨s, d, es, cs, -⟩ := own_addr r1 (by omega)
      have r0' := r0
      rw [ea] at d0 r0'
      rw [es] at d1
      have hcx : w.cell? ⟨a, l.length, none⟩ = some (.int .i64 m) := by
        rw [r0'.cellAt _ (by omega), e1]; simp
      have hf := fw_in b g S.T S.T t a l.length c s n m d i w H.c0 ht2 hO.T8 d0 d1 hcx h1 h5 (by omega) cs
      by_cases hi : 0 ≤ i ∧ i < (m : Int)
      · rw [if_pos hi] at hf e
        rw [e]
        refine ⟨_, _, _, hf, fun _ => ⟨ht.1, ht.2, hi.1, hi.2, ?_, s, n, d, rfl, ?_, ?_⟩⟩
        · unfold Sta.slotAt; rw [hla]; show _ < (S.rw (t * 2 + 1)).length; rw [show ((t : Int).toNat) = t from rfl, h2]; omega
        · show vs (t * 2 + 1) = _; rw [es]; show _ = Value.slice _ (S.rw (t * 2 + 1)).length d; rw [h2]
        · unfold Sta.slotAt; rw [hla, show ((t : Int).toNat) = t from rfl, h2]; omega
      · rw [if_neg hi] at hf e
        rw [e]
        exact ⟨_, _, _, hf, fun h => by cases h⟩
  · have e : S.slotE t i = 51 := by unfold Sta.slotE; rw [if_neg ht]
    exact ⟨none, 0, 0, by rw [e]; exact fw_e51 b g S.T S.T t i w H.c0 ht hO.T8, fun h => by rw [e] at h; cases h⟩

set_option maxRecDepth 20000 in
theorem get_no (b : Nat) (t i E : Int) (a : Option Addr) (len cap : Nat) (w : World) (hE : E ≠ 0)
    (hf : Calls Try.prog 44 #[.pointer (some ⟨b, 0, none⟩), .int .i64 t, .int .i64 i] w (fun e w' => e = .returned (.tuple #[.slice a len cap, .int .i64 E]) ∧ ∃ nq, w' = w.drewN nq)) :
    Calls Try.prog 22 #[.pointer (some ⟨b, 0, none⟩), .int .i64 t, .int .i64 i] w fun e w' => e = .returned (.tuple #[.int .i64 0, .int .i64 E]) ∧ ∃ nq, w' = w.drewN nq := by
  have hz : (E == 0) = false := by simpa using hE
  go_enter Try.func22, Try.ntmps22
  go_wp2_with fail
  refine hf.mono ?_
  rintro e w' ⟨rfl, nq, rfl⟩
  clear hf
  go_wp2
  go_ret2
  exact ⟨rfl, nq, rfl⟩

set_option maxRecDepth 20000 in
theorem get_yes (b s n j len cap : Nat) (t x : Int) (w : World) (hj : j < len) (hx : w.cell? ⟨s, n + j, none⟩ = some (.int .i64 x))
    (hf : Calls Try.prog 44 #[.pointer (some ⟨b, 0, none⟩), .int .i64 t, .int .i64 j] w (fun e w' => e = .returned (.tuple #[.slice (some ⟨s, n, none⟩) len cap, .int .i64 0]) ∧ ∃ nq, w' = w.drewN nq)) :
    Calls Try.prog 22 #[.pointer (some ⟨b, 0, none⟩), .int .i64 t, .int .i64 j] w fun e w' => e = .returned (.tuple #[.int .i64 x, .int .i64 0]) ∧ ∃ nq, w' = w.drewN nq := by
  have hji : (j : Int) < (len : Int) := by omega
  go_enter Try.func22, Try.ntmps22
  go_wp2_with fail
  refine hf.mono ?_
  rintro e w' ⟨rfl, nq, rfl⟩
  clear hf
  go_wp2
  go_ret2
  exact ⟨rfl, nq, rfl⟩

theorem get_any (base b N : Nat) (t i : Int) (S : Sta) (F : List Nat) (w : World) (H : Rts w base b N S F) (hO : S.Ok) :
    Calls Try.prog 22 #[.pointer (some ⟨b, 0, none⟩), .int .i64 t, .int .i64 i] w fun e w' => e = .returned (.tuple #[.int .i64 (S.getV t i), .int .i64 (S.slotE t i)]) ∧ ∃ nq, w' = w.drewN nq := by
  obtain ⟨g, h, q, FQ, vs, H, rfl⟩ := H
  obtain ⟨a, len, cap, hf, hz⟩ := fw_any base b g h q N t i FQ vs S w H hO
  by_cases e : S.slotE t i = 0
  · obtain ⟨h1, h2, h3, h4, h5, s, n, d, rfl, h6, h7⟩ := hz e
    obtain ⟨j, rfl⟩ := Int.eq_ofNat_of_zero_le h3
    have r := H.row (t.toNat * 2 + 1) (by omega)
    rw [h6] at r
    obtain ⟨x, hx⟩ : ∃ x, (S.rw (t.toNat * 2 + 1))[S.slotAt t j]? = some x := ⟨_, List.getElem?_eq_getElem h5⟩
    have ev : S.getV t j = x := by unfold Sta.getV; rw [if_pos e, List.getD_eq_getElem?_getD, hx]; rfl
    have hc : w.cell? ⟨s, n + j, none⟩ = some (.int .i64 x) := by
      have h8 : n + j = S.slotAt t j := h7
      rw [h8, r.cellAt _ (by omega)]; simp [hx]
    rw [e] at hf
    rw [ev, e]
    exact get_yes b s n j len cap t x w (by omega) hc hf
  · have ev : S.getV t i = 0 := by unfold Sta.getV; rw [if_neg e]
    rw [ev]
    exact get_no b t i _ a len cap w e hf

set_option maxRecDepth 20000 in
theorem set_no (b : Nat) (t i x E : Int) (a : Option Addr) (len cap : Nat) (w : World) (hE : E ≠ 0)
    (hf : Calls Try.prog 44 #[.pointer (some ⟨b, 0, none⟩), .int .i64 t, .int .i64 i] w (fun e w' => e = .returned (.tuple #[.slice a len cap, .int .i64 E]) ∧ ∃ nq, w' = w.drewN nq)) :
    Calls Try.prog 23 #[.pointer (some ⟨b, 0, none⟩), .int .i64 t, .int .i64 i, .int .i64 x] w fun e w' => e = .returned (.int .i64 E) ∧ ∃ nq, w' = w.drewN nq := by
  have hz : (E == 0) = false := by simpa using hE
  go_enter Try.func23, Try.ntmps23
  go_wp2_with fail
  refine hf.mono ?_
  rintro e w' ⟨rfl, nq, rfl⟩
  clear hf
  go_wp2
  go_ret
  exact ⟨rfl, nq, rfl⟩

set_option maxRecDepth 20000 in
theorem set_yes (b s n j len cap : Nat) (t x y : Int) (w : World) (hj : j < len) (hx : w.cell? ⟨s, n + j, none⟩ = some (.int .i64 y)) (hz : w.frozen? ⟨s, n + j, none⟩ = false)
    (hf : Calls Try.prog 44 #[.pointer (some ⟨b, 0, none⟩), .int .i64 t, .int .i64 j] w (fun e w' => e = .returned (.tuple #[.slice (some ⟨s, n, none⟩) len cap, .int .i64 0]) ∧ ∃ nq, w' = w.drewN nq)) :
    Calls Try.prog 23 #[.pointer (some ⟨b, 0, none⟩), .int .i64 t, .int .i64 j, .int .i64 x] w fun e w' => e = .returned (.int .i64 0) ∧ ∃ nq, w' = (w.drewN nq).setCell ⟨s, n + j, none⟩ (.int .i64 (adr x)) := by
  have hji : (j : Int) < (len : Int) := by omega
  go_enter Try.func23, Try.ntmps23
  go_wp2_with fail
  refine hf.mono ?_
  rintro e w' ⟨rfl, nq, rfl⟩
  clear hf
  go_wp2_with fail
  refine (address_any x _).mono ?_
  rintro e w' ⟨rfl, rfl⟩
  go_wp2
  go_ret
  exact ⟨rfl, nq, rfl⟩

theorem set_any (base b N : Nat) (t i x : Int) (S : Sta) (F : List Nat) (w : World) (H : Rts w base b N S F) (hO : S.Ok) :
    Calls Try.prog 23 #[.pointer (some ⟨b, 0, none⟩), .int .i64 t, .int .i64 i, .int .i64 x] w fun e w' => e = .returned (.int .i64 (S.slotE t i)) ∧ Rts w' base b N (S.setS t i x) F ∧ Touch F w w' := by
  obtain ⟨g, h, q, FQ, vs, H, rfl⟩ := H
  obtain ⟨a, len, cap, hf, hz⟩ := fw_any base b g h q N t i FQ vs S w H hO
  by_cases e : S.slotE t i = 0
  · obtain ⟨h1, h2, h3, h4, h5, s, n, d, rfl, h6, h7⟩ := hz e
    obtain ⟨j, rfl⟩ := Int.eq_ofNat_of_zero_le h3
    have r := H.row (t.toNat * 2 + 1) (by omega)
    have r' := r
    rw [h6] at r'
    obtain ⟨y, hy⟩ : ∃ y, (S.rw (t.toNat * 2 + 1))[S.slotAt t j]? = some y := ⟨_, List.getElem?_eq_getElem h5⟩
    have h8 : n + j = S.slotAt t j := h7
    have hc : w.cell? ⟨s, n + j, none⟩ = some (.int .i64 y) := by
      rw [h8, r'.cellAt _ (by omega)]; simp [hy]
    have hfz := r'.frozenAt (n + j)
    rw [e] at hf
    rw [e]
    refine (set_yes b s n j len cap t x y w (by omega) hc hfz hf).mono ?_
    rintro e' w' ⟨rfl, nq, rfl⟩
    have eS : S.setS t j x = { S with rw := upd S.rw (t.toNat * 2 + 1) ((S.rw (t.toNat * 2 + 1)).set (S.slotAt t j) (adr x)) } := by unfold Sta.setS; rw [if_pos e]
    have hst := ((show (w.drewN nq).ownsRow base 3 1 (.slice (some ⟨s, 0, none⟩) (S.rw (t.toNat * 2 + 1)).length d) _ _ from r').stored (n + j) (.int .i64 (adr x))).1
    have e1 : (ints (S.rw (t.toNat * 2 + 1))).set (n + j) (.int .i64 (adr x)) = ints ((S.rw (t.toNat * 2 + 1)).set (S.slotAt t j) (adr x)) := by simp [ints, List.map_set, h8]
    rw [e1] at hst
    have tt : Touch (vs (t.toNat * 2 + 1)).ownBlock.toList w ((w.drewN nq).setCell ⟨s, n + j, none⟩ (.int .i64 (adr x))) := (Touch.drewN _ w nq).trans (Touch.setCell _ _ _ (by rw [h6]; simp [Value.ownBlock]))
    refine ⟨rfl, ⟨g, h, q, FQ, vs, ?_, ?_⟩, tt.mono (fun k hk => .inl (mem_fp.2 (.inr (.inr (.inr (.inr ⟨t.toNat * 2 + 1, by omega, by simpa using hk⟩))))))⟩
    · rw [eS]
      exact H.setIn (by omega) tt (by simp) (by rw [h6, List.length_set]; exact hst)
    · rw [eS]
  · have eS : S.setS t i x = S := by unfold Sta.setS; rw [if_neg e]
    rw [eS]
    refine (set_no b t i x _ a len cap w e hf).mono ?_
    rintro e' w' ⟨rfl, nq, rfl⟩
    exact ⟨rfl, ⟨g, h, q, FQ, vs, H.touch (Touch.drewN [] _ _) (fun k _ h => by cases h), rfl⟩, Touch.drewN _ _ _⟩

theorem Sta.Ok.setS {S : Sta} (h : S.Ok) (t i x : Int) : (S.setS t i x).Ok := by
  unfold Sta.setS
  split
  · rename_i he
    have ht : 0 ≤ t ∧ t < S.T := by
      apply Classical.byContradiction; intro hn; unfold Sta.slotE at he; rw [if_neg hn] at he; cases he
    have hs := h.sum t.toNat (by omega)
    have hp := h.pos t.toNat (by omega)
    have hr := h.room t.toNat (by omega)
    have h0 := h.s0 t.toNat (by omega)
    have := h.turn t.toNat (S.rw (t.toNat * 2)) ((S.rw (t.toNat * 2 + 1)).set (S.slotAt t i) (adr x)) (by simpa using hs) hp (by simpa using hr) (by
      intro y hy
      rcases List.mem_or_eq_of_mem_set hy with h | rfl
      · exact h0 y h
      · exact adr_nn x)
    have e : upd S.rw (t.toNat * 2) (S.rw (t.toNat * 2)) = S.rw := by funext j; by_cases e : j = t.toNat * 2 <;> simp [upd, e]
    rw [e] at this
    exact this
  · exact h

end Go.Proofs.Ytemdmpfifcihfaa
