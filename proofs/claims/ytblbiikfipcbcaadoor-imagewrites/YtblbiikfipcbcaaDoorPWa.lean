import Derived.Test.YtblbiikfipcbcaaDoorIG8
import Derived.Test.YtblbiikfipcbcaaDoorPIp
import Derived.Test.YtblbiikfipcbcaaDoorKGB
import Derived.Laws.EntriesVeiled
/-
  Images, the writer: its bytes; a number.
-/
set_option linter.unusedVariables false
set_option maxRecDepth 20000
namespace Go.Proofs.YtblbiikfipcbcaaDoor
open Go.RowKit Go.Shelf

/-- Bytes as values. -/
def bts (l : List Nat) : List Value := l.map fun x : Nat => Value.int .u8 (x : Int)
theorem bts_append (l m : List Nat) : bts (l ++ m) = bts l ++ bts m := by simp [bts]
theorem bts_len (l : List Nat) : (bts l).length = l.length := by simp [bts]

/-- The writer R: its bytes lie in block Q. -/
structure Wr (w : World) (R Q : Nat) (bs : List Nat) : Prop where
  c : ∃ cap, w.heap[R]? = some (.cells #[.slice (some ⟨Q, 0, none⟩) bs.length cap] 64 (0, 0)) ∧ w.ownsRow 0 5 1 (.slice (some ⟨Q, 0, none⟩) bs.length cap) bs.length (bts bs)

/-- From one world to the next: nothing but the writer has changed. -/
structure Kp (R : Nat) (w : World) (Q : Nat) (w' : World) (Q' : Nat) : Prop where
  t : Kg.Touch [R, Q] w w'
  q : Q' = Q ∨ w.heap.size ≤ Q'

theorem Kp.refl (R : Nat) (w : World) (Q : Nat) : Kp R w Q w Q := ⟨Kg.Touch.refl _ _, .inl rfl⟩
theorem Kp.trans {R Q Q' Q'' : Nat} {w w' w'' : World} (h : Kp R w Q w' Q') (k : Kp R w' Q' w'' Q'') : Kp R w Q w'' Q'' := by
  refine ⟨h.t.then k.t (fun x hx => ?_), ?_⟩
  · simp only [List.mem_cons, List.not_mem_nil, or_false] at hx
    rcases hx with rfl | rfl
    · exact .inl (by simp)
    · rcases h.q with e | e
      · exact .inl (by simp [e])
      · exact .inr e
  · have := h.t.size
    rcases k.q with e | e
    · rcases h.q with e' | e'
      · exact .inl (by omega)
      · exact .inr (by omega)
    · exact .inr (by omega)
theorem Kp.below {R Q : Nat} {w w' : World} (b : Below w.heap.size w w') : Kp R w Q w' Q := ⟨Kg.Touch.of_below b _, .inl rfl⟩
theorem Kp.lt {R Q Q' k : Nat} {w w' : World} (h : Kp R w Q w' Q') (hk : k < w.heap.size) : k < w'.heap.size := Nat.lt_of_lt_of_le hk h.t.size
theorem Kp.ne {R Q Q' k : Nat} {w w' : World} (h : Kp R w Q w' Q') (hk : k < w.heap.size) (hq : k ≠ Q) : k ≠ Q' := by
  rcases h.q with e | e
  · omega
  · omega
theorem Kp.block {R Q Q' k : Nat} {w w' : World} (h : Kp R w Q w' Q') (hk : k < w.heap.size) (hr : k ≠ R) (hq : k ≠ Q) : w'.heap[k]? = w.heap[k]? := h.t.block k hk (by simp [hr, hq])
theorem Kp.cell {R Q Q' k j : Nat} {w w' : World} (h : Kp R w Q w' Q') (hk : k < w.heap.size) (hr : k ≠ R) (hq : k ≠ Q) : w'.cell? ⟨k, j, none⟩ = w.cell? ⟨k, j, none⟩ := by
  simp only [World.cell?, h.block hk hr hq]

theorem Wr.lt {w : World} {R Q : Nat} {bs : List Nat} (h : Wr w R Q bs) : R < w.heap.size ∧ Q < w.heap.size ∧ R ≠ Q := by
  obtain ⟨cap, h1, h2⟩ := h.c
  refine ⟨Kg.heap_lt h1, (h2.lt Q rfl).2, fun e => ?_⟩
  exact Kg.row_ne h1 h2 (by decide) (by rw [e]; rfl)

theorem Wr.below {w w' : World} {R Q : Nat} {bs : List Nat} (h : Wr w R Q bs) (b : Below w.heap.size w w') : Wr w' R Q bs := by
  obtain ⟨cap, h1, h2⟩ := h.c
  have t := Kg.Touch.of_below b []
  exact ⟨cap, by rw [t.block R (Kg.heap_lt h1) (by simp)]; exact h1, Kg.row_keep2 h2 t (fun k _ => by simp)⟩

/-- Bytes are laid behind those that are there. -/
theorem Wr.grow {w w1 w8 : World} {R Q cap Z cz : Nat} {bs xs : List Nat} (hR : w.heap[R]? = some (.cells #[.slice (some ⟨Q, 0, none⟩) bs.length cap] 64 (0, 0))) (hQ : w.ownsRow 0 5 1 (.slice (some ⟨Q, 0, none⟩) bs.length cap) bs.length (bts bs)) (b1 : Below w.heap.size w w1)
    (ho : w8.ownsRow 0 5 1 (.slice (some ⟨Z, 0, none⟩) (bs.length + xs.length) cz) (bs.length + xs.length) (bts bs ++ bts xs)) (hg : w1.grownBy w8 (some Q)) (hat : some Z = some Q ∨ some Z = some w1.heap.size) :
    Wr (w8.setCell ⟨R, 0, none⟩ (.slice (some ⟨Z, 0, none⟩) (bs.length + xs.length) cz)) R Z (bs ++ xs) ∧ Kp R w Q (w8.setCell ⟨R, 0, none⟩ (.slice (some ⟨Z, 0, none⟩) (bs.length + xs.length) cz)) Z := by
  have hne : R ≠ Q := fun e => Kg.row_ne hR hQ (by decide) (by rw [e]; rfl)
  have hRl := Kg.heap_lt hR
  have t1 := Kg.Touch.of_below b1 [R, Q]
  have t2 : Kg.Touch [R, Q] w1 w8 := Kg.Touch.grown hg (fun k hk => by simp only [Option.some.injEq] at hk; simp [hk])
  have t12 := t1.trans t2
  have t2' : Kg.Touch [Q] w1 w8 := Kg.Touch.grown hg (fun k hk => by simp only [Option.some.injEq] at hk; simp [hk])
  have r8 : w8.heap[R]? = some (.cells #[.slice (some ⟨Q, 0, none⟩) bs.length cap] 64 (0, 0)) := by
    rw [t2'.block R (Nat.lt_of_lt_of_le hRl t1.size) (by simp [hne]), (Kg.Touch.of_below b1 []).block R hRl (by simp)]
    exact hR
  refine ⟨⟨cz, ?_, ?_⟩, ⟨t12.trans (Kg.Touch.setCell _ _ _ (by simp)), ?_⟩⟩
  · rw [Kg.heap_set r8, List.length_append]
    rfl
  · rw [List.length_append, bts_append]
    exact Kg.ownsRow_setOther ho (Kg.row_ne r8 ho (by decide)) _
  · rcases hat with e | e
    · exact .inl (by simpa using e)
    · have := t1.size
      simp only [Option.some.injEq] at e
      exact .inr (by omega)

theorem infoU8 : (Tryd.prog.info? 5).map (fun i => (i.zero, i.size, i.bytes)) = some (some (.int .u8 0), 1, 1) := by kernel_rfl

theorem or128 : ∀ r : Fin 128, bits BinOp.or IntKind.u64 ((r.val : Nat) : Int) 128 % 256 = ((128 + r.val : Nat) : Int) := by decide +kernel
theorem or128_of (m : Nat) : bits BinOp.or IntKind.u64 ((m : Int) % 128) 128 % 256 = ((128 + m % 128 : Nat) : Int) := or128 ⟨m % 128, by omega⟩

theorem num_len : ∀ (k n : Nat), n < 128 ^ (k + 1) → (Im.num n).length ≤ k + 1 := by
  intro k
  induction k with
  | zero => intro n h; rw [Im.num_small (by simpa using h)]; simp
  | succ k ih =>
    intro n h
    by_cases h1 : n < 128
    · rw [Im.num_small h1]; simp
    · rw [Im.num_great (by omega), List.length_cons]
      have := ih (n / 128) (by rw [Nat.pow_succ] at h; omega)
      omega

theorem Wr.at8 {w w1 w8 : World} {R Q cap : Nat} {bs : List Nat} (hR : w.heap[R]? = some (.cells #[.slice (some ⟨Q, 0, none⟩) bs.length cap] 64 (0, 0))) (hQ : w.ownsRow 0 5 1 (.slice (some ⟨Q, 0, none⟩) bs.length cap) bs.length (bts bs)) (b1 : Below w.heap.size w w1) (hg : w1.grownBy w8 (some Q)) :
    w8.cell? ⟨R, 0, none⟩ = some (.slice (some ⟨Q, 0, none⟩) bs.length cap) ∧ w8.frozen? ⟨R, 0, none⟩ = false := by
  have hne : R ≠ Q := fun e => Kg.row_ne hR hQ (by decide) (by rw [e]; rfl)
  have hRl := Kg.heap_lt hR
  have t2' : Kg.Touch [Q] w1 w8 := Kg.Touch.grown hg (fun k hk => by simp only [Option.some.injEq] at hk; simp [hk])
  have r8 : w8.heap[R]? = some (.cells #[.slice (some ⟨Q, 0, none⟩) bs.length cap] 64 (0, 0)) := by
    rw [t2'.block R (Nat.lt_of_lt_of_le hRl b1.size) (by simp [hne]), (Kg.Touch.of_below b1 []).block R hRl (by simp)]
    exact hR
  exact ⟨(Kg.heap_cell r8 0).trans rfl, Kg.heap_frozen r8 0⟩

/-- Bytes are laid behind a row of one's own. -/
theorem row_more {w1 w8 : World} {Q Z Z' cz : Nat} {cs xs : List Nat} {v' : Obj} (ho : w8.ownsRow 0 5 1 (.slice (some ⟨Z', 0, none⟩) (cs.length + xs.length) cz) (cs.length + xs.length) (bts cs ++ bts xs)) (hg : (w1.alloc v').grownBy w8 (some Z)) (hat : some Z' = some Z ∨ some Z' = some (w1.alloc v').heap.size) :
    w8.ownsRow 0 5 1 (.slice (some ⟨Z', 0, none⟩) (cs ++ xs).length cz) (cs ++ xs).length (bts (cs ++ xs)) ∧ Kp Q w1 Z w8 Z' := by
  refine ⟨?_, (Kg.Touch.of_below (Below.alloc (Below.refl _ _) (Nat.le_refl _) _) [Q, Z]).trans (Kg.Touch.grown hg (fun k hk => by simp only [Option.some.injEq] at hk; simp [hk])), ?_⟩
  · rw [List.length_append, bts_append]
    exact ho
  · rcases hat with e | e
    · exact .inl (by simpa using e)
    · simp only [Option.some.injEq] at e
      have : w1.heap.size ≤ (w1.alloc v').heap.size := by simp
      exact .inr (by omega)

set_option maxHeartbeats 8000000 in
/-- Octets: a number is laid behind bytes. -/
theorem oAppend_any (n : Nat) (hn : n < 18446744073709551616) (w : World) (Q cap : Nat) (bs : List Nat) (h : w.ownsRow 0 5 1 (.slice (some ⟨Q, 0, none⟩) bs.length cap) bs.length (bts bs)) (hl : bs.length ≤ 1000000000000) :
    Calls Tryd.prog 87 #[.slice (some ⟨Q, 0, none⟩) bs.length cap, .int .u64 n] w fun e w' => ∃ Q' cap', e = .returned (.slice (some ⟨Q', 0, none⟩) (bs ++ Im.num n).length cap') ∧ w'.ownsRow 0 5 1 (.slice (some ⟨Q', 0, none⟩) (bs ++ Im.num n).length cap') (bs ++ Im.num n).length (bts (bs ++ Im.num n)) ∧ Kp Q w Q w' Q' := by
  obtain ⟨i0, hi0, hj0, hj1, hj2⟩ := info_parts infoU8
  have HI : Hid (Tryd.prog.info? 5 = some i0 ∧ i0.zero = some (.int .u8 0) ∧ i0.size = 1 ∧ i0.bytes = 1) := ⟨hi0, hj0, hj1, hj2⟩
  have HW : Hid (w.ownsRow 0 5 1 (.slice (some ⟨Q, 0, none⟩) bs.length cap) bs.length (bts bs)) := h
  have Hlen : Hid ((Im.num n).length ≤ 10) := num_len 9 n (by omega)
  clear hi0 hj0 hj1 hj2 h
  go_enter Tryd.func87, Tryd.ntmps87
  go_wp2
  go_loopw [0, 1] (fun v0 v1 wr => ∃ (m Z cp : Nat) (cs : List Nat), v0 = .slice (some ⟨Z, 0, none⟩) cs.length cp ∧ v1 = .int .u64 m ∧ m < 18446744073709551616 ∧ Hid (wr.ownsRow 0 5 1 (.slice (some ⟨Z, 0, none⟩) cs.length cp) cs.length (bts cs)) ∧ Hid (cs ++ Im.num m = bs ++ Im.num n) ∧ Hid (Kp Q w Q wr Z)) (fun _ v1 _ => (intOf v1).toNat)
  case atStart => exact ⟨n, Q, cap, bs, rfl, rfl, hn, HW, rfl, Kp.refl _ _ _⟩
  case round =>
    obtain ⟨m, Z, cp, cs, rfl, rfl, hm, Hq, HE, HK⟩ := hrel
    have Hll : Hid (cs.length ≤ 2000000000000) := by
      have h1 := congrArg List.length HE.out
      simp only [List.length_append] at h1
      have := Hlen.out
      show _ ≤ _
      omega
    by_cases hg : 128 ≤ m
    · have hgI : (128 : Int) ≤ (m : Int) := by omega
      go_upto_region 3 with (at_builtin; refine wpList_append_own_at _ rfl _ _ 22 rfl 0 5 i0 (.int .u8 0) 1 1 Tryd.underlying22 HI.out.1 HI.out.2.1 HI.out.2.2.1 HI.out.2.2.2 rfl (by decide) _ _ _ rfl (Hq.out.alloc _) ⟨wr.heap.size, 0, none⟩ 1 1 [_] rfl rfl (cell_one_new _ _ _) (by simp [Value.oneCell']) (by have := Hll.out; simp [maxLen]; omega) (by have := Hll.out; omega) (Nat.zero_le _) ?_; intro v' w8 hown' hgrow _ hat; obtain ⟨Z', cz, hZ⟩ := Kg.ownsRow_some hown' (Nat.succ_pos _); subst hZ)
      have hown2 : w8.ownsRow 0 5 1 (.slice (some ⟨Z', 0, none⟩) (cs.length + 1) cz) (cs.length + 1) (bts cs ++ bts [128 + m % 128]) := by
        have := hown'
        rw [or128_of] at this
        exact this
      have hn2 := row_more hown2 hgrow hat (Q := Q)
      have Hq9 : Hid (w8.ownsRow 0 5 1 (.slice (some ⟨Z', 0, none⟩) (cs ++ [128 + m % 128]).length cz) (cs ++ [128 + m % 128]).length (bts (cs ++ [128 + m % 128]))) := hn2.1
      have HK9 : Hid (Kp Q w Q w8 Z') := HK.out.trans hn2.2
      have HE9 : Hid ((cs ++ [128 + m % 128]) ++ Im.num (m / 128) = bs ++ Im.num n) := by
        show _ = _
        rw [← HE.out, Im.num_great hg, List.append_assoc]
        rfl
      clear hown2 hn2 hown' hgrow hat Hq
      go_wp2
      go_roundw
      case rel =>
        exact ⟨m / 128, Z', cz, cs ++ [128 + m % 128], by simp, by simp, by omega, Hq9, HE9, HK9⟩
      case measure => simp [intOf]; omega
    · have hgI : ¬ (128 : Int) ≤ (m : Int) := by omega
      have hmI : (m : Int) % 256 = m := by omega
      go_wp2_with (at_builtin; refine wpList_append_own_at _ rfl _ _ 22 rfl 0 5 i0 (.int .u8 0) 1 1 Tryd.underlying22 HI.out.1 HI.out.2.1 HI.out.2.2.1 HI.out.2.2.2 rfl (by decide) _ _ _ rfl (Hq.out.alloc _) ⟨wr.heap.size, 0, none⟩ 1 1 [_] rfl rfl (cell_one_new _ _ _) (by simp [Value.oneCell']) (by have := Hll.out; simp [maxLen]; omega) (by have := Hll.out; omega) (Nat.zero_le _) ?_; intro v' w8 hown' hgrow _ hat; obtain ⟨Z', cz, hZ⟩ := Kg.ownsRow_some hown' (Nat.succ_pos _); subst hZ)
      have hn2 := row_more (xs := [m]) hown' hgrow hat (Q := Q)
      have e9 : cs ++ [m] = bs ++ Im.num n := by rw [← HE.out, Im.num_small (by omega)]
      rw [e9] at hn2
      have l9 : cs.length + 1 = (bs ++ Im.num n).length := by rw [← e9]; simp
      rw [l9]
      have HN : Hid (w8.ownsRow 0 5 1 (.slice (some ⟨Z', 0, none⟩) (bs ++ Im.num n).length cz) (bs ++ Im.num n).length (bts (bs ++ Im.num n)) ∧ Kp Q w Q w8 Z') := ⟨hn2.1, HK.out.trans hn2.2⟩
      clear hn2 hown' hgrow hat Hq l9 e9
      go_wp2
      go_ret
      exact ⟨Z', cz, by rw [← List.length_append]; rfl, by rw [← List.length_append]; exact HN.out.1, HN.out.2⟩

set_option maxHeartbeats 4000000 in
/-- A number is written. -/
theorem wNumber_any (n : Nat) (hn : n < 18446744073709551616) (w : World) (R Q : Nat) (bs : List Nat) (h : Wr w R Q bs) (hl : bs.length ≤ 1000000000000) :
    Calls Tryd.prog 59 #[.pointer (some ⟨R, 0, none⟩), .int .u64 n] w fun e w' => e = .returned (.tuple #[]) ∧ ∃ Q', Wr w' R Q' (bs ++ Im.num n) ∧ Kp R w Q w' Q' := by
  have HW : Hid (Wr w R Q bs) := h
  obtain ⟨cap, r1, q1⟩ := h.c
  have c0 := (Kg.heap_cell r1 0).trans (show _ = some (.slice (some ⟨Q, 0, none⟩) bs.length cap) from rfl)
  have hC := oAppend_any n hn w Q cap bs q1 hl
  have hne : R ≠ Q := h.lt.2.2
  clear h q1
  go_enter Tryd.func59, Tryd.ntmps59
  go_wp2_with fail
  refine hC.mono ?_
  rintro e w1 ⟨Q', cap', rfl, ho, hk⟩
  have hr1 : w1.heap[R]? = some (.cells #[.slice (some ⟨Q, 0, none⟩) bs.length cap] 64 (0, 0)) := (hk.block (Kg.heap_lt r1) hne hne).trans r1
  have r8 := (Kg.heap_cell hr1 0).trans (show _ = some (.slice (some ⟨Q, 0, none⟩) bs.length cap) from rfl)
  have f8 := Kg.heap_frozen hr1 0
  have hW : Wr (w1.setCell ⟨R, 0, none⟩ (.slice (some ⟨Q', 0, none⟩) (bs ++ Im.num n).length cap')) R Q' (bs ++ Im.num n) := ⟨cap', by rw [Kg.heap_set hr1]; rfl, Kg.ownsRow_setOther ho (Kg.row_ne hr1 ho (by decide)) _⟩
  have hK : Kp R w Q (w1.setCell ⟨R, 0, none⟩ (.slice (some ⟨Q', 0, none⟩) (bs ++ Im.num n).length cap')) Q' := ⟨(hk.t.mono (fun k hk => .inl (by simp at hk; simp [hk]))).trans (Kg.Touch.setCell _ _ _ (by simp)), hk.q⟩
  have HWK : Hid (Wr (w1.setCell ⟨R, 0, none⟩ (.slice (some ⟨Q', 0, none⟩) (bs ++ Im.num n).length cap')) R Q' (bs ++ Im.num n) ∧ Kp R w Q (w1.setCell ⟨R, 0, none⟩ (.slice (some ⟨Q', 0, none⟩) (bs ++ Im.num n).length cap')) Q') := ⟨hW, hK⟩
  clear hC ho hk hW hK c0
  generalize (bs ++ Im.num n).length = L at *
  go_wp2
  refine bodyPost_end (v := .tuple #[]) ?_ rfl ⟨rfl, Q', HWK.out.1, HWK.out.2⟩
  simp [results, Tryd.results59, go_sem]

end Go.Proofs.YtblbiikfipcbcaaDoor

/-
  Images, the writer: parts that are numbers.
-/
set_option linter.unusedVariables false
set_option maxRecDepth 20000
namespace Go.Proofs.YtblbiikfipcbcaaDoor
open Go.RowKit Go.Shelf

/-- A part that stands for bytes: whoever writes it later, with nothing but the writer changed meanwhile, lays these. -/
def PtC (bs : List Nat) (v : Value) (R : Nat) (w : World) (Q : Nat) : Prop :=
  ∀ w' Q' acc, Kp R w Q w' Q' → Wr w' R Q' acc → acc.length + bs.length ≤ 100000000000 →
    Calls Tryd.prog 26 #[.pointer (some ⟨R, 0, none⟩), v] w' fun e w'' => e = .returned (.tuple #[]) ∧ ∃ Q'', Wr w'' R Q'' (acc ++ bs) ∧ Kp R w' Q' w'' Q''

theorem PtC.keep {bs : List Nat} {v : Value} {R Q Q' : Nat} {w w' : World} (h : PtC bs v R w Q) (k : Kp R w Q w' Q') : PtC bs v R w' Q' :=
  fun w'' Q'' acc k' hw hl => h w'' Q'' acc (k.trans k') hw hl

theorem ta_pnumber (v : Value) (w : World) : Sem.run Tryd.prog (Instr.typeAssert (.iface 89 v) 67 89 true) w = .ok (.tuple #[v, .bool true]) w := by kernel_rfl
theorem ta_phandle (v : Value) (w : World) : Sem.run Tryd.prog (Instr.typeAssert (.iface 91 v) 67 91 true) w = .ok (.tuple #[v, .bool true]) w := by kernel_rfl
theorem tn_phandle_pnumber (v : Value) (w : World) : Sem.run Tryd.prog (Instr.typeAssert (.iface 91 v) 67 89 true) w = .ok (.tuple #[.agg #[.pointer none], .bool false]) w := by kernel_rfl
theorem ta_praw (v : Value) (w : World) : Sem.run Tryd.prog (Instr.typeAssert (.iface 94 v) 67 94 true) w = .ok (.tuple #[v, .bool true]) w := by kernel_rfl
theorem tn_praw_pnumber (v : Value) (w : World) : Sem.run Tryd.prog (Instr.typeAssert (.iface 94 v) 67 89 true) w = .ok (.tuple #[.agg #[.pointer none], .bool false]) w := by kernel_rfl
theorem tn_praw_phandle (v : Value) (w : World) : Sem.run Tryd.prog (Instr.typeAssert (.iface 94 v) 67 91 true) w = .ok (.tuple #[.agg #[.pointer none], .bool false]) w := by kernel_rfl
theorem ta_pserial (v : Value) (w : World) : Sem.run Tryd.prog (Instr.typeAssert (.iface 96 v) 67 96 true) w = .ok (.tuple #[v, .bool true]) w := by kernel_rfl
theorem tn_pserial_pnumber (v : Value) (w : World) : Sem.run Tryd.prog (Instr.typeAssert (.iface 96 v) 67 89 true) w = .ok (.tuple #[.agg #[.pointer none], .bool false]) w := by kernel_rfl
theorem tn_pserial_phandle (v : Value) (w : World) : Sem.run Tryd.prog (Instr.typeAssert (.iface 96 v) 67 91 true) w = .ok (.tuple #[.agg #[.pointer none], .bool false]) w := by kernel_rfl
theorem tn_pserial_praw (v : Value) (w : World) : Sem.run Tryd.prog (Instr.typeAssert (.iface 96 v) 67 94 true) w = .ok (.tuple #[.agg #[.pointer none], .bool false]) w := by kernel_rfl
theorem ta_plist (v : Value) (w : World) : Sem.run Tryd.prog (Instr.typeAssert (.iface 99 v) 67 99 true) w = .ok (.tuple #[v, .bool true]) w := by kernel_rfl
theorem tn_plist_pnumber (v : Value) (w : World) : Sem.run Tryd.prog (Instr.typeAssert (.iface 99 v) 67 89 true) w = .ok (.tuple #[.agg #[.pointer none], .bool false]) w := by kernel_rfl
theorem tn_plist_phandle (v : Value) (w : World) : Sem.run Tryd.prog (Instr.typeAssert (.iface 99 v) 67 91 true) w = .ok (.tuple #[.agg #[.pointer none], .bool false]) w := by kernel_rfl
theorem tn_plist_praw (v : Value) (w : World) : Sem.run Tryd.prog (Instr.typeAssert (.iface 99 v) 67 94 true) w = .ok (.tuple #[.agg #[.pointer none], .bool false]) w := by kernel_rfl
theorem tn_plist_pserial (v : Value) (w : World) : Sem.run Tryd.prog (Instr.typeAssert (.iface 99 v) 67 96 true) w = .ok (.tuple #[.agg #[.pointer none, .int .u64 0], .bool false]) w := by kernel_rfl
theorem ta_pgroup (v : Value) (w : World) : Sem.run Tryd.prog (Instr.typeAssert (.iface 101 v) 67 101 true) w = .ok (.tuple #[v, .bool true]) w := by kernel_rfl
theorem tn_pgroup_pnumber (v : Value) (w : World) : Sem.run Tryd.prog (Instr.typeAssert (.iface 101 v) 67 89 true) w = .ok (.tuple #[.agg #[.pointer none], .bool false]) w := by kernel_rfl
theorem tn_pgroup_phandle (v : Value) (w : World) : Sem.run Tryd.prog (Instr.typeAssert (.iface 101 v) 67 91 true) w = .ok (.tuple #[.agg #[.pointer none], .bool false]) w := by kernel_rfl
theorem tn_pgroup_praw (v : Value) (w : World) : Sem.run Tryd.prog (Instr.typeAssert (.iface 101 v) 67 94 true) w = .ok (.tuple #[.agg #[.pointer none], .bool false]) w := by kernel_rfl
theorem tn_pgroup_pserial (v : Value) (w : World) : Sem.run Tryd.prog (Instr.typeAssert (.iface 101 v) 67 96 true) w = .ok (.tuple #[.agg #[.pointer none, .int .u64 0], .bool false]) w := by kernel_rfl
theorem tn_pgroup_plist (v : Value) (w : World) : Sem.run Tryd.prog (Instr.typeAssert (.iface 101 v) 67 99 true) w = .ok (.tuple #[.agg #[.int .i64 0, .nilFunc, .nilFunc], .bool false]) w := by kernel_rfl

set_option maxHeartbeats 8000000 in
theorem pt_number {w : World} {R Q b o : Nat} {n : Nat} (hb : b < w.heap.size) (hR : b ≠ R) (hQ : b ≠ Q) (hc : w.cell? ⟨b, o, none⟩ = some (.int .i64 (n : Int))) (h1 : n ≤ 9223372036854775807) :
    PtC (Im.num n) (.iface 89 (.agg #[.pointer (some ⟨b, o, none⟩)])) R w Q := by
  intro w' Q' acc k hw hl
  have hbl := k.lt hb
  have hc' : w'.cell? ⟨b, o, none⟩ = some (.int .i64 (n : Int)) := (k.cell hb hR hQ).trans hc
  have HW : Hid (Wr w' R Q' acc) := hw
  have Hl : Hid (acc.length + (Im.num n).length ≤ 100000000000) := hl
  clear hw hc hl k
  have ta := ta_pnumber (.agg #[.pointer (some ⟨b, o, none⟩)]) w'
  go_enter Tryd.func26, Tryd.ntmps26
  go_upto_region 3 with fail
  have hb1 : Below w'.heap.size w' (w'.alloc (.cells #[.pointer (some ⟨b, o, none⟩)] 89)) := Below.alloc (Below.refl _ _) (Nat.le_refl _) _
  have hx0 := Kg.heap_cell (heap_alloc_new w' (.cells #[.pointer (some ⟨b, o, none⟩)] 89 (0, 0))) 0
  have hx1 := Kg.heap_cell (heap_alloc_new w' (.cells #[.pointer (some ⟨b, o, none⟩)] 89 (0, 0))) 1
  have hcl := (hb1.cell (p := ⟨b, o, none⟩) hbl).trans hc'
  have HW1 : Hid (Wr (w'.alloc (.cells #[.pointer (some ⟨b, o, none⟩)] 89)) R Q' acc) := HW.out.below hb1
  have HB1 : Hid (Below w'.heap.size w' (w'.alloc (.cells #[.pointer (some ⟨b, o, none⟩)] 89))) := hb1
  simp only [List.getElem?_toArray, List.getElem?_cons_zero, List.getElem?_cons_succ, List.getElem?_nil] at hx0 hx1
  clear hc' hb1
  generalize w'.alloc (.cells #[.pointer (some ⟨b, o, none⟩)] 89) = W at *
  have hz : (n : Int) % 18446744073709551616 = n := by omega
  have hC := wNumber_any (n) (by omega) W R Q' acc HW1.out (by have := Hl.out; omega)
  go_wp2_with fail
  refine hC.mono ?_
  rintro e w2 ⟨rfl, Q2, hW2, hK2⟩
  have HW2 : Hid (Wr w2 R Q2 (acc ++ Im.num n)) := hW2
  have HK2 : Hid (Kp R w' Q' w2 Q2) := (Kp.below HB1.out).trans hK2
  clear hC hW2 hK2 hcl hx0 hx1
  go_wp2
  refine bodyPost_end (v := .tuple #[]) ?_ rfl ⟨rfl, Q2, HW2.out, HK2.out⟩
  simp [results, Tryd.results26, go_sem]

set_option maxHeartbeats 8000000 in
theorem pt_handle {w : World} {R Q b o : Nat} {z : Int} (hb : b < w.heap.size) (hR : b ≠ R) (hQ : b ≠ Q) (hc : w.cell? ⟨b, o, none⟩ = some (.int .i64 z)) (h0 : -1 ≤ z) (h1 : z < 9223372036854775807) :
    PtC (Im.num (z + 1).toNat) (.iface 91 (.agg #[.pointer (some ⟨b, o, none⟩)])) R w Q := by
  intro w' Q' acc k hw hl
  have hbl := k.lt hb
  have hc' : w'.cell? ⟨b, o, none⟩ = some (.int .i64 z) := (k.cell hb hR hQ).trans hc
  have HW : Hid (Wr w' R Q' acc) := hw
  have Hl : Hid (acc.length + (Im.num (z + 1).toNat).length ≤ 100000000000) := hl
  clear hw hc hl k
  have tn_pnumber := tn_phandle_pnumber (.agg #[.pointer (some ⟨b, o, none⟩)]) w'
  have ta := ta_phandle (.agg #[.pointer (some ⟨b, o, none⟩)]) w'
  go_enter Tryd.func26, Tryd.ntmps26
  go_upto_region 6 with fail
  have hb1 : Below w'.heap.size w' (w'.alloc (.cells #[.pointer (some ⟨b, o, none⟩)] 91)) := Below.alloc (Below.refl _ _) (Nat.le_refl _) _
  have hx0 := Kg.heap_cell (heap_alloc_new w' (.cells #[.pointer (some ⟨b, o, none⟩)] 91 (0, 0))) 0
  have hx1 := Kg.heap_cell (heap_alloc_new w' (.cells #[.pointer (some ⟨b, o, none⟩)] 91 (0, 0))) 1
  have hcl := (hb1.cell (p := ⟨b, o, none⟩) hbl).trans hc'
  have HW1 : Hid (Wr (w'.alloc (.cells #[.pointer (some ⟨b, o, none⟩)] 91)) R Q' acc) := HW.out.below hb1
  have HB1 : Hid (Below w'.heap.size w' (w'.alloc (.cells #[.pointer (some ⟨b, o, none⟩)] 91))) := hb1
  simp only [List.getElem?_toArray, List.getElem?_cons_zero, List.getElem?_cons_succ, List.getElem?_nil] at hx0 hx1
  clear hc' hb1
  generalize w'.alloc (.cells #[.pointer (some ⟨b, o, none⟩)] 91) = W at *
  have hz : (z + 1) % 18446744073709551616 = z + 1 := by omega
  have hC := wNumber_any ((z + 1).toNat) (by omega) W R Q' acc HW1.out (by have := Hl.out; omega)
  rw [show (((z + 1).toNat : Nat) : Int) = z + 1 by omega] at hC
  go_wp2_with fail
  refine hC.mono ?_
  rintro e w2 ⟨rfl, Q2, hW2, hK2⟩
  have HW2 : Hid (Wr w2 R Q2 (acc ++ Im.num (z + 1).toNat)) := hW2
  have HK2 : Hid (Kp R w' Q' w2 Q2) := (Kp.below HB1.out).trans hK2
  clear hC hW2 hK2 hcl hx0 hx1
  go_wp2
  refine bodyPost_end (v := .tuple #[]) ?_ rfl ⟨rfl, Q2, HW2.out, HK2.out⟩
  simp [results, Tryd.results26, go_sem]

set_option maxHeartbeats 8000000 in
theorem pt_raw {w : World} {R Q b o : Nat} {n : Nat} (hb : b < w.heap.size) (hR : b ≠ R) (hQ : b ≠ Q) (hc : w.cell? ⟨b, o, none⟩ = some (.int .u64 (n : Int))) (h1 : n < 18446744073709551616) :
    PtC (Im.num n) (.iface 94 (.agg #[.pointer (some ⟨b, o, none⟩)])) R w Q := by
  intro w' Q' acc k hw hl
  have hbl := k.lt hb
  have hc' : w'.cell? ⟨b, o, none⟩ = some (.int .u64 (n : Int)) := (k.cell hb hR hQ).trans hc
  have HW : Hid (Wr w' R Q' acc) := hw
  have Hl : Hid (acc.length + (Im.num n).length ≤ 100000000000) := hl
  clear hw hc hl k
  have tn_pnumber := tn_praw_pnumber (.agg #[.pointer (some ⟨b, o, none⟩)]) w'
  have tn_phandle := tn_praw_phandle (.agg #[.pointer (some ⟨b, o, none⟩)]) w'
  have ta := ta_praw (.agg #[.pointer (some ⟨b, o, none⟩)]) w'
  go_enter Tryd.func26, Tryd.ntmps26
  go_upto_region 9 with fail
  have hb1 : Below w'.heap.size w' (w'.alloc (.cells #[.pointer (some ⟨b, o, none⟩)] 94)) := Below.alloc (Below.refl _ _) (Nat.le_refl _) _
  have hx0 := Kg.heap_cell (heap_alloc_new w' (.cells #[.pointer (some ⟨b, o, none⟩)] 94 (0, 0))) 0
  have hx1 := Kg.heap_cell (heap_alloc_new w' (.cells #[.pointer (some ⟨b, o, none⟩)] 94 (0, 0))) 1
  have hcl := (hb1.cell (p := ⟨b, o, none⟩) hbl).trans hc'
  have HW1 : Hid (Wr (w'.alloc (.cells #[.pointer (some ⟨b, o, none⟩)] 94)) R Q' acc) := HW.out.below hb1
  have HB1 : Hid (Below w'.heap.size w' (w'.alloc (.cells #[.pointer (some ⟨b, o, none⟩)] 94))) := hb1
  simp only [List.getElem?_toArray, List.getElem?_cons_zero, List.getElem?_cons_succ, List.getElem?_nil] at hx0 hx1
  clear hc' hb1
  generalize w'.alloc (.cells #[.pointer (some ⟨b, o, none⟩)] 94) = W at *
  have hC := wNumber_any (n) (by omega) W R Q' acc HW1.out (by have := Hl.out; omega)
  go_wp2_with fail
  refine hC.mono ?_
  rintro e w2 ⟨rfl, Q2, hW2, hK2⟩
  have HW2 : Hid (Wr w2 R Q2 (acc ++ Im.num n)) := hW2
  have HK2 : Hid (Kp R w' Q' w2 Q2) := (Kp.below HB1.out).trans hK2
  clear hC hW2 hK2 hcl hx0 hx1
  go_wp2
  refine bodyPost_end (v := .tuple #[]) ?_ rfl ⟨rfl, Q2, HW2.out, HK2.out⟩
  simp [results, Tryd.results26, go_sem]


end Go.Proofs.YtblbiikfipcbcaaDoor

/-
  Images, the writer: serials, groups, lists.
-/
set_option linter.unusedVariables false
set_option maxRecDepth 20000
namespace Go.Proofs.YtblbiikfipcbcaaDoor
open Go.RowKit Go.Shelf

set_option maxHeartbeats 8000000 in
theorem pt_serial {w : World} {R Q b o : Nat} {s a : Nat} (hb : b < w.heap.size) (hR : b ≠ R) (hQ : b ≠ Q) (hc : w.cell? ⟨b, o, none⟩ = some (.int .u64 (s : Int))) (ha : a ≤ s) (h1 : s < 18446744073709551616) :
    PtC (Im.num (s - a)) (.iface 96 (.agg #[.pointer (some ⟨b, o, none⟩), .int .u64 (a : Int)])) R w Q := by
  intro w' Q' acc k hw hl
  have hbl := k.lt hb
  have hc' : w'.cell? ⟨b, o, none⟩ = some (.int .u64 (s : Int)) := (k.cell hb hR hQ).trans hc
  have HW : Hid (Wr w' R Q' acc) := hw
  have Hl : Hid (acc.length + (Im.num (s - a)).length ≤ 100000000000) := hl
  clear hw hc hl k
  have tn1 := tn_pserial_pnumber (.agg #[.pointer (some ⟨b, o, none⟩), .int .u64 (a : Int)]) w'
  have tn2 := tn_pserial_phandle (.agg #[.pointer (some ⟨b, o, none⟩), .int .u64 (a : Int)]) w'
  have tn3 := tn_pserial_praw (.agg #[.pointer (some ⟨b, o, none⟩), .int .u64 (a : Int)]) w'
  have ta := ta_pserial (.agg #[.pointer (some ⟨b, o, none⟩), .int .u64 (a : Int)]) w'
  go_enter Tryd.func26, Tryd.ntmps26
  go_upto_region 12 with fail
  have hb1 : Below w'.heap.size w' (w'.alloc (.cells #[.pointer (some ⟨b, o, none⟩), .int .u64 (a : Int)] 96)) := Below.alloc (Below.refl _ _) (Nat.le_refl _) _
  have hx := heap_alloc_new w' (.cells #[.pointer (some ⟨b, o, none⟩), .int .u64 (a : Int)] 96 (0, 0))
  have Hcl : Hid ((w'.alloc (.cells #[.pointer (some ⟨b, o, none⟩), .int .u64 (a : Int)] 96)).cell? ⟨b, o, none⟩ = some (.int .u64 (s : Int))) := (hb1.cell (p := ⟨b, o, none⟩) hbl).trans hc'
  have HW1 : Hid (Wr (w'.alloc (.cells #[.pointer (some ⟨b, o, none⟩), .int .u64 (a : Int)] 96)) R Q' acc) := HW.out.below hb1
  have HB1 : Hid (Below w'.heap.size w' (w'.alloc (.cells #[.pointer (some ⟨b, o, none⟩), .int .u64 (a : Int)] 96))) := hb1
  have hws : w'.heap.size < (w'.alloc (.cells #[.pointer (some ⟨b, o, none⟩), .int .u64 (a : Int)] 96)).heap.size := by simp
  clear hc' hb1
  generalize w'.alloc (.cells #[.pointer (some ⟨b, o, none⟩), .int .u64 (a : Int)] 96) = W at *
  haveI hinh : Inhabited (Kg.Bel W) := ⟨⟨W, Below.refl _ _⟩⟩
  have z0 : ∀ q : Kg.Bel W, q.v.cell? ⟨w'.heap.size, 0, none⟩ = some (.pointer (some ⟨b, o, none⟩)) := fun q => (q.h.cell (p := ⟨w'.heap.size, 0, none⟩) hws).trans (Kg.heap_cell hx 0)
  have z1 : ∀ q : Kg.Bel W, q.v.cell? ⟨w'.heap.size, 1, none⟩ = some (.int .u64 (a : Int)) := fun q => (q.h.cell (p := ⟨w'.heap.size, 1, none⟩) hws).trans (Kg.heap_cell hx 1)
  have z2 : ∀ q : Kg.Bel W, q.v.cell? ⟨b, o, none⟩ = some (.int .u64 (s : Int)) := fun q => (q.h.cell (p := ⟨b, o, none⟩) (Nat.lt_of_lt_of_le hbl HB1.out.size)).trans Hcl.out
  have hz : ((s : Int) - (a : Int)) % 18446744073709551616 = (s : Int) - (a : Int) := by omega
  refine Kg.below_call 8 Kg.mixed (by kernel_rfl) ?_
  simp only [List.take_succ_cons, List.take_zero, List.drop_succ_cons, List.drop_zero]
  repeat (go_big_quiet_step (fail))
  refine wpQuiet_nil ?_
  rintro w4 ⟨⟨w4, b4⟩, rfl⟩
  have hC := wNumber_any (s - a) (by omega) w4 R Q' acc (HW1.out.below b4) (by have := Hl.out; omega)
  rw [show ((s - a : Nat) : Int) = (s : Int) - (a : Int) by omega] at hC
  have HB4 : Hid (Below w'.heap.size w' w4) := HB1.out.trans (b4.mono HB1.out.size)
  clear z0 z1 z2 hinh b4
  go_wp2_with fail
  refine hC.mono ?_
  rintro e w2 ⟨rfl, Q2, hW2, hK2⟩
  have HW2 : Hid (Wr w2 R Q2 (acc ++ Im.num (s - a))) := hW2
  have HK2 : Hid (Kp R w' Q' w2 Q2) := (Kp.below HB4.out).trans hK2
  clear hC hW2 hK2
  go_wp2_with fail
  refine Kg.thenQuiet_mk ?_
  refine wpQuiet_nil ?_
  go_wp2
  refine bodyPost_end (v := .tuple #[]) ?_ rfl ⟨rfl, Q2, HW2.out, HK2.out⟩
  simp [results, Tryd.results26, go_sem]

theorem flat_take_len (ls : List (List Nat)) (k : Nat) : (ls.take k).flatten.length ≤ ls.flatten.length := by
  have h := congrArg (fun l => (List.flatten l).length) (List.take_append_drop k ls)
  simp only [List.flatten_append, List.length_append] at h
  omega

theorem flat_take_snoc {ls : List (List Nat)} {k : Nat} {x : List Nat} (h : ls[k]? = some x) : (ls.take (k + 1)).flatten = (ls.take k).flatten ++ x := by
  rw [List.take_add_one, h]
  simp

set_option maxHeartbeats 8000000 in
/-- Parts one behind the other. -/
theorem pt_group {w : World} {R Q g cap : Nat} {vs : List Value} {ls : List (List Nat)} (hlen : vs.length = ls.length) (hb : g < w.heap.size) (hR : g ≠ R) (hQ : g ≠ Q) (hcap : vs.length ≤ cap) (hn : vs.length ≤ 100) (hc : ∀ (i : Nat) x, vs[i]? = some x → w.cell? ⟨g, i, none⟩ = some x)
    (hp : ∀ (i : Nat) x l, vs[i]? = some x → ls[i]? = some l → PtC l x R w Q) :
    PtC ls.flatten (.iface 101 (.slice (some ⟨g, 0, none⟩) vs.length cap)) R w Q := by
  intro w' Q' acc k0 hw hl
  have Hlen : Hid (vs.length = ls.length) := hlen
  have Hk0 : Hid (Kp R w Q w' Q') := k0
  have HW : Hid (Wr w' R Q' acc) := hw
  have Hl : Hid (acc.length + ls.flatten.length ≤ 100000000000) := hl
  have Hc : Hid (∀ (i : Nat) x, vs[i]? = some x → w.cell? ⟨g, i, none⟩ = some x) := hc
  have Hp : Hid (∀ (i : Nat) x l, vs[i]? = some x → ls[i]? = some l → PtC l x R w Q) := hp
  have tn1 := tn_pgroup_pnumber (.slice (some ⟨g, 0, none⟩) vs.length cap) w'
  have tn2 := tn_pgroup_phandle (.slice (some ⟨g, 0, none⟩) vs.length cap) w'
  have tn3 := tn_pgroup_praw (.slice (some ⟨g, 0, none⟩) vs.length cap) w'
  have tn4 := tn_pgroup_pserial (.slice (some ⟨g, 0, none⟩) vs.length cap) w'
  have tn5 := tn_pgroup_plist (.slice (some ⟨g, 0, none⟩) vs.length cap) w'
  have ta := ta_pgroup (.slice (some ⟨g, 0, none⟩) vs.length cap) w'
  clear k0 hw hl hc hp hlen
  go_enter Tryd.func26, Tryd.ntmps26
  go_wp2
  clear tn1 tn2 tn3 tn4 tn5 ta
  go_loopw [81] (fun v81 wr => ∃ k Z : Nat, k ≤ vs.length ∧ v81 = .int .i64 k ∧ Hid (Wr wr R Z (acc ++ (ls.take k).flatten)) ∧ Hid (Kp R w' Q' wr Z)) (fun v81 _ => vs.length - (intOf v81).toNat)
  case atStart => exact ⟨0, Q', Nat.zero_le _, rfl, by show Wr _ _ _ _; simpa using HW.out, Kp.refl _ _ _⟩
  case round =>
    obtain ⟨k, Z, hk, rfl, HWr, HK⟩ := hrel
    by_cases hkl : k < vs.length
    · have hkI : (k : Int) < (vs.length : Int) := by omega
      have hz : vs[k]? = some (vs[k]'hkl) := List.getElem?_eq_getElem hkl
      have hz2 : ls[k]? = some (ls[k]'(by have := Hlen.out; omega)) := List.getElem?_eq_getElem (by have := Hlen.out; omega)
      generalize vs[k]'hkl = x at hz
      generalize ls[k]'(by have := Hlen.out; omega) = l at hz2
      have hK2 := Hk0.out.trans HK.out
      have hcx : wr.cell? ⟨g, k, none⟩ = some x := (hK2.cell hb hR hQ).trans (Hc.out k x hz)
      have h1 := flat_take_len ls (k + 1)
      rw [flat_take_snoc hz2, List.length_append] at h1
      have hC := Hp.out k x l hz hz2 wr Z _ hK2 HWr.out (by have := Hl.out; rw [List.length_append]; omega)
      have Ht : Hid ((ls.take (k + 1)).flatten = (ls.take k).flatten ++ l) := flat_take_snoc hz2
      clear hK2 h1 hz hz2
      go_wp2_with fail
      refine hC.mono ?_
      rintro e w5 ⟨rfl, Z5, hW5, hK5⟩
      have HW5 : Hid (Wr w5 R Z5 (acc ++ (ls.take (k + 1)).flatten)) := by
        show Wr _ _ _ _
        rw [Ht.out, ← List.append_assoc]
        exact hW5
      have HK5 : Hid (Kp R w' Q' w5 Z5) := HK.out.trans hK5
      clear hC hW5 hK5 hcx
      go_wp2
      go_roundw
      case rel => exact ⟨k + 1, Z5, by omega, by go_num, HW5, HK5⟩
      case measure => simp [intOf]; omega
    · have hkI : ¬ (k : Int) < (vs.length : Int) := by omega
      have HW9 : Hid (Wr wr R Z (acc ++ ls.flatten)) := by
        have := HWr.out
        rw [List.take_of_length_le (by have := Hlen.out; omega)] at this
        exact this
      clear HWr
      go_wp2
      refine bodyPost_end (v := .tuple #[]) ?_ rfl ⟨rfl, Z, HW9.out, HK.out⟩
      simp [results, Tryd.results26, go_sem]

set_option maxHeartbeats 8000000 in
/-- How many there are, and these. -/
theorem pt_list {w : World} {R Q c F c2 G : Nat} {ls : List (List Nat)} (hn : ls.length ≤ 1000000000) (hent : ∀ args w, (callFunc F args).run Tryd.prog w = .ok (.enter F args) w)
    (he : ∀ (i : Nat) l, ls[i]? = some l → ∀ w' Q', Kp R w Q w' Q' → R < w'.heap.size → Q' < w'.heap.size → Calls Tryd.prog F #[.int .i64 (i : Int), .pointer (some ⟨c, 0, none⟩)] w' fun e w'' => ∃ v, e = .returned v ∧ Below w'.heap.size w' w'' ∧ PtC l v R w'' Q') :
    PtC (Im.num ls.length ++ ls.flatten) (.iface 99 (.agg #[.int .i64 (ls.length : Int), .func (.func F) #[] #[.pointer (some ⟨c, 0, none⟩)], .func (.func G) #[] #[.pointer (some ⟨c2, 0, none⟩)]])) R w Q := by
  intro w' Q' acc k0 hw hl
  have Hk0 : Hid (Kp R w Q w' Q') := k0
  have HW : Hid (Wr w' R Q' acc) := hw
  have Hl : Hid (acc.length + (Im.num ls.length ++ ls.flatten).length ≤ 100000000000) := hl
  have He : Hid (∀ (i : Nat) l, ls[i]? = some l → ∀ w' Q', Kp R w Q w' Q' → R < w'.heap.size → Q' < w'.heap.size → Calls Tryd.prog F #[.int .i64 (i : Int), .pointer (some ⟨c, 0, none⟩)] w' fun e w'' => ∃ v, e = .returned v ∧ Below w'.heap.size w' w'' ∧ PtC l v R w'' Q') := he
  have tn1 := tn_plist_pnumber (.agg #[.int .i64 (ls.length : Int), .func (.func F) #[] #[.pointer (some ⟨c, 0, none⟩)], .func (.func G) #[] #[.pointer (some ⟨c2, 0, none⟩)]]) w'
  have tn2 := tn_plist_phandle (.agg #[.int .i64 (ls.length : Int), .func (.func F) #[] #[.pointer (some ⟨c, 0, none⟩)], .func (.func G) #[] #[.pointer (some ⟨c2, 0, none⟩)]]) w'
  have tn3 := tn_plist_praw (.agg #[.int .i64 (ls.length : Int), .func (.func F) #[] #[.pointer (some ⟨c, 0, none⟩)], .func (.func G) #[] #[.pointer (some ⟨c2, 0, none⟩)]]) w'
  have tn4 := tn_plist_pserial (.agg #[.int .i64 (ls.length : Int), .func (.func F) #[] #[.pointer (some ⟨c, 0, none⟩)], .func (.func G) #[] #[.pointer (some ⟨c2, 0, none⟩)]]) w'
  have ta := ta_plist (.agg #[.int .i64 (ls.length : Int), .func (.func F) #[] #[.pointer (some ⟨c, 0, none⟩)], .func (.func G) #[] #[.pointer (some ⟨c2, 0, none⟩)]]) w'
  clear k0 hw hl he
  go_enter Tryd.func26, Tryd.ntmps26
  go_upto_region 15 with fail
  clear tn1 tn2 tn3 tn4 ta
  have hb1 : Below w'.heap.size w' (w'.alloc (.cells #[.int .i64 (ls.length : Int), .func (.func F) #[] #[.pointer (some ⟨c, 0, none⟩)], .func (.func G) #[] #[.pointer (some ⟨c2, 0, none⟩)]] 99)) := Below.alloc (Below.refl _ _) (Nat.le_refl _) _
  have hx := heap_alloc_new w' (.cells #[.int .i64 (ls.length : Int), .func (.func F) #[] #[.pointer (some ⟨c, 0, none⟩)], .func (.func G) #[] #[.pointer (some ⟨c2, 0, none⟩)]] 99 (0, 0))
  have HW1 : Hid (Wr (w'.alloc (.cells #[.int .i64 (ls.length : Int), .func (.func F) #[] #[.pointer (some ⟨c, 0, none⟩)], .func (.func G) #[] #[.pointer (some ⟨c2, 0, none⟩)]] 99)) R Q' acc) := HW.out.below hb1
  have HB1 : Hid (Below w'.heap.size w' (w'.alloc (.cells #[.int .i64 (ls.length : Int), .func (.func F) #[] #[.pointer (some ⟨c, 0, none⟩)], .func (.func G) #[] #[.pointer (some ⟨c2, 0, none⟩)]] 99))) := hb1
  have hws : w'.heap.size < (w'.alloc (.cells #[.int .i64 (ls.length : Int), .func (.func F) #[] #[.pointer (some ⟨c, 0, none⟩)], .func (.func G) #[] #[.pointer (some ⟨c2, 0, none⟩)]] 99)).heap.size := by simp
  generalize w'.alloc (.cells #[.int .i64 (ls.length : Int), .func (.func F) #[] #[.pointer (some ⟨c, 0, none⟩)], .func (.func G) #[] #[.pointer (some ⟨c2, 0, none⟩)]] 99) = W at *
  have hXR : w'.heap.size ≠ R := by have := HW.out.lt; omega
  have hXQ : w'.heap.size ≠ Q' := by have := HW.out.lt; omega
  have HX : Hid (∀ w'' Q'', Kp R W Q' w'' Q'' → w''.cell? ⟨w'.heap.size, 0, none⟩ = some (.int .i64 (ls.length : Int)) ∧ w''.cell? ⟨w'.heap.size, 1, none⟩ = some (.func (.func F) #[] #[.pointer (some ⟨c, 0, none⟩)])) := fun w'' Q'' kk =>
    ⟨(kk.cell hws hXR hXQ).trans (Kg.heap_cell hx 0), (kk.cell hws hXR hXQ).trans (Kg.heap_cell hx 1)⟩
  have c0 := (HX.out W Q' (Kp.refl _ _ _)).1
  have hC := wNumber_any ls.length (by omega) W R Q' acc HW1.out (by have := Hl.out; omega)
  have hz : (ls.length : Int) % 18446744073709551616 = ls.length := by omega
  clear hb1 hx hws
  go_wp2_with fail
  refine hC.mono ?_
  rintro e w2 ⟨rfl, Q2, hW2, hK2⟩
  have HW2 : Hid (Wr w2 R Q2 (acc ++ Im.num ls.length)) := hW2
  have HK2 : Hid (Kp R W Q' w2 Q2) := hK2
  have c2 := (HX.out w2 Q2 hK2).1
  clear hC hW2 hK2 c0
  go_wp2
  clear c2
  go_loopw [66] (fun v66 wr => ∃ k Z : Nat, k ≤ ls.length ∧ v66 = .int .i64 k ∧ Hid (Wr wr R Z ((acc ++ Im.num ls.length) ++ (ls.take k).flatten)) ∧ Hid (Kp R W Q' wr Z)) (fun v66 _ => ls.length - (intOf v66).toNat)
  case atStart => exact ⟨0, Q2, Nat.zero_le _, rfl, by show Wr _ _ _ _; simpa using HW2.out, HK2⟩
  case round =>
    obtain ⟨k, Z, hk, rfl, HWr, HK⟩ := hrel
    by_cases hkl : k < ls.length
    · have hkI : (k : Int) < (ls.length : Int) := by omega
      have hz2 : ls[k]? = some (ls[k]'hkl) := List.getElem?_eq_getElem hkl
      generalize ls[k]'hkl = l at hz2
      have hK2 := (Hk0.out.trans (Kp.below HB1.out)).trans HK.out
      have c1 := (HX.out wr Z HK.out).2
      have hE := He.out k l hz2 wr Z hK2 HWr.out.lt.1 HWr.out.lt.2.1
      have Hlt : Hid (((acc ++ Im.num ls.length) ++ (ls.take k).flatten).length + l.length ≤ 100000000000) := by
        have h1 := flat_take_len ls (k + 1)
        rw [flat_take_snoc hz2, List.length_append] at h1
        have := Hl.out
        simp only [List.length_append] at this
        show _ ≤ _
        simp only [List.length_append]
        omega
      have Ht : Hid ((ls.take (k + 1)).flatten = (ls.take k).flatten ++ l) := flat_take_snoc hz2
      clear hK2 hz2
      go_wp2_with fail
      refine hE.mono ?_
      rintro e w4 ⟨v4, rfl, b4, hp4⟩
      have hC := hp4 w4 Z _ (Kp.refl _ _ _) (HWr.out.below b4) Hlt.out
      have HK4 : Hid (Kp R W Q' w4 Z) := HK.out.trans (Kp.below b4)
      clear hE b4 hp4 c1
      go_wp2_with fail
      refine hC.mono ?_
      rintro e w5 ⟨rfl, Z5, hW5, hK5⟩
      have HW5 : Hid (Wr w5 R Z5 ((acc ++ Im.num ls.length) ++ (ls.take (k + 1)).flatten)) := by
        show Wr _ _ _ _
        rw [Ht.out, ← List.append_assoc]
        exact hW5
      have HK5 : Hid (Kp R W Q' w5 Z5) := HK4.out.trans hK5
      clear hC hW5 hK5
      go_wp2
      go_roundw
      case rel => exact ⟨k + 1, Z5, by omega, by go_num, HW5, HK5⟩
      case measure => simp [intOf]; omega
    · have hkI : ¬ (k : Int) < (ls.length : Int) := by omega
      have HW9 : Hid (Wr wr R Z (acc ++ (Im.num ls.length ++ ls.flatten))) := by
        have := HWr.out
        rw [List.take_of_length_le (by omega), List.append_assoc] at this
        exact this
      have HK9 : Hid (Kp R w' Q' wr Z) := (Kp.below HB1.out).trans HK.out
      clear HWr
      go_wp2
      refine bodyPost_end (v := .tuple #[]) ?_ rfl ⟨rfl, Z, HW9.out, HK9.out⟩
      simp [results, Tryd.results26, go_sem]

end Go.Proofs.YtblbiikfipcbcaaDoor

/-
  Images, the writer: parts that are lists of numbers, and lists of these.
-/
set_option linter.unusedVariables false
set_option maxRecDepth 20000
namespace Go.Proofs.YtblbiikfipcbcaaDoor
open Go.RowKit Go.Shelf

/-- What lies below n0 stays. -/
theorem Kp.low {R Q Q' n0 : Nat} {w w' : World} (k : Kp R w Q w' Q') (hw : n0 ≤ w.heap.size) (hR : n0 ≤ R) (hQ : n0 ≤ Q) : Below n0 w w' ∧ n0 ≤ Q' := by
  refine ⟨k.t.below hw (fun x hx => ?_), ?_⟩
  · simp only [List.mem_cons, List.not_mem_nil, or_false] at hx
    omega
  · have := k.q
    omega

set_option maxHeartbeats 4000000 in
theorem listO_any (w : World) (b o F c n cap : Nat) (a : Option Addr) (hb : b < w.heap.size) (hc : w.cell? ⟨b, o, none⟩ = some (.slice a n cap)) :
    Calls Tryd.prog 60 #[.pointer (some ⟨b, o, none⟩), .func (.func F) #[] #[.pointer (some ⟨c, 0, none⟩)]] w fun e w' => ∃ c2, e = .returned (.iface 99 (.agg #[.int .i64 (n : Int), .func (.func F) #[] #[.pointer (some ⟨c, 0, none⟩)], .func (.func 88) #[] #[.pointer (some ⟨c2, 0, none⟩)]])) ∧ Below w.heap.size w w' := by
  go_enter Tryd.func60, Tryd.ntmps60
  go_upto_region 1 with fail
  have hb1 : Below w.heap.size w (w.alloc (.cells #[.pointer (some ⟨b, o, none⟩)] 103)) := Below.alloc (Below.refl _ _) (Nat.le_refl _) _
  have hx0 := (Kg.heap_cell (heap_alloc_new w (.cells #[.pointer (some ⟨b, o, none⟩)] 103 (0, 0))) 0).trans (show _ = some (.pointer (some ⟨b, o, none⟩)) from rfl)
  have hcl := (hb1.cell (p := ⟨b, o, none⟩) hb).trans hc
  have HB : Hid (Below w.heap.size w (w.alloc (.cells #[.pointer (some ⟨b, o, none⟩)] 103))) := hb1
  clear hc hb1
  generalize w.alloc (.cells #[.pointer (some ⟨b, o, none⟩)] 103) = W at *
  go_wp2
  go_ret
  exact ⟨_, rfl, HB.out⟩

set_option maxHeartbeats 4000000 in
theorem listF_any (w : World) (b o F c n cap : Nat) (a : Option Addr) (hb : b < w.heap.size) (hc : w.cell? ⟨b, o, none⟩ = some (.slice a n cap)) :
    Calls Tryd.prog 63 #[.pointer (some ⟨b, o, none⟩), .func (.func F) #[] #[.pointer (some ⟨c, 0, none⟩)]] w fun e w' => ∃ c2, e = .returned (.iface 99 (.agg #[.int .i64 (n : Int), .func (.func F) #[] #[.pointer (some ⟨c, 0, none⟩)], .func (.func 91) #[] #[.pointer (some ⟨c2, 0, none⟩)]])) ∧ Below w.heap.size w w' := by
  go_enter Tryd.func63, Tryd.ntmps63
  go_upto_region 1 with fail
  have hb1 : Below w.heap.size w (w.alloc (.cells #[.pointer (some ⟨b, o, none⟩)] 106)) := Below.alloc (Below.refl _ _) (Nat.le_refl _) _
  have hx0 := (Kg.heap_cell (heap_alloc_new w (.cells #[.pointer (some ⟨b, o, none⟩)] 106 (0, 0))) 0).trans (show _ = some (.pointer (some ⟨b, o, none⟩)) from rfl)
  have hcl := (hb1.cell (p := ⟨b, o, none⟩) hb).trans hc
  have HB : Hid (Below w.heap.size w (w.alloc (.cells #[.pointer (some ⟨b, o, none⟩)] 106))) := hb1
  clear hc hb1
  generalize w.alloc (.cells #[.pointer (some ⟨b, o, none⟩)] 106) = W at *
  go_wp2
  go_ret
  exact ⟨_, rfl, HB.out⟩

set_option maxHeartbeats 4000000 in
theorem listI_any (w : World) (b o F c n cap : Nat) (a : Option Addr) (hb : b < w.heap.size) (hc : w.cell? ⟨b, o, none⟩ = some (.slice a n cap)) :
    Calls Tryd.prog 66 #[.pointer (some ⟨b, o, none⟩), .func (.func F) #[] #[.pointer (some ⟨c, 0, none⟩)]] w fun e w' => ∃ c2, e = .returned (.iface 99 (.agg #[.int .i64 (n : Int), .func (.func F) #[] #[.pointer (some ⟨c, 0, none⟩)], .func (.func 94) #[] #[.pointer (some ⟨c2, 0, none⟩)]])) ∧ Below w.heap.size w w' := by
  go_enter Tryd.func66, Tryd.ntmps66
  go_upto_region 1 with fail
  have hb1 : Below w.heap.size w (w.alloc (.cells #[.pointer (some ⟨b, o, none⟩)] 110)) := Below.alloc (Below.refl _ _) (Nat.le_refl _) _
  have hx0 := (Kg.heap_cell (heap_alloc_new w (.cells #[.pointer (some ⟨b, o, none⟩)] 110 (0, 0))) 0).trans (show _ = some (.pointer (some ⟨b, o, none⟩)) from rfl)
  have hcl := (hb1.cell (p := ⟨b, o, none⟩) hb).trans hc
  have HB : Hid (Below w.heap.size w (w.alloc (.cells #[.pointer (some ⟨b, o, none⟩)] 110))) := hb1
  clear hc hb1
  generalize w.alloc (.cells #[.pointer (some ⟨b, o, none⟩)] 110) = W at *
  go_wp2
  go_ret
  exact ⟨_, rfl, HB.out⟩

set_option maxHeartbeats 4000000 in
theorem listU_any (w : World) (b o F c n cap : Nat) (a : Option Addr) (hb : b < w.heap.size) (hc : w.cell? ⟨b, o, none⟩ = some (.slice a n cap)) :
    Calls Tryd.prog 89 #[.pointer (some ⟨b, o, none⟩), .func (.func F) #[] #[.pointer (some ⟨c, 0, none⟩)]] w fun e w' => ∃ c2, e = .returned (.iface 99 (.agg #[.int .i64 (n : Int), .func (.func F) #[] #[.pointer (some ⟨c, 0, none⟩)], .func (.func 104) #[] #[.pointer (some ⟨c2, 0, none⟩)]])) ∧ Below w.heap.size w w' := by
  go_enter Tryd.func89, Tryd.ntmps89
  go_upto_region 1 with fail
  have hb1 : Below w.heap.size w (w.alloc (.cells #[.pointer (some ⟨b, o, none⟩)] 136)) := Below.alloc (Below.refl _ _) (Nat.le_refl _) _
  have hx0 := (Kg.heap_cell (heap_alloc_new w (.cells #[.pointer (some ⟨b, o, none⟩)] 136 (0, 0))) 0).trans (show _ = some (.pointer (some ⟨b, o, none⟩)) from rfl)
  have hcl := (hb1.cell (p := ⟨b, o, none⟩) hb).trans hc
  have HB : Hid (Below w.heap.size w (w.alloc (.cells #[.pointer (some ⟨b, o, none⟩)] 136))) := hb1
  clear hc hb1
  generalize w.alloc (.cells #[.pointer (some ⟨b, o, none⟩)] 136) = W at *
  go_wp2
  go_ret
  exact ⟨_, rfl, HB.out⟩

set_option maxHeartbeats 4000000 in
theorem listS_any (w : World) (b o F c n cap : Nat) (a : Option Addr) (hb : b < w.heap.size) (hc : w.cell? ⟨b, o, none⟩ = some (.slice a n cap)) :
    Calls Tryd.prog 92 #[.pointer (some ⟨b, o, none⟩), .func (.func F) #[] #[.pointer (some ⟨c, 0, none⟩)]] w fun e w' => ∃ c2, e = .returned (.iface 99 (.agg #[.int .i64 (n : Int), .func (.func F) #[] #[.pointer (some ⟨c, 0, none⟩)], .func (.func 105) #[] #[.pointer (some ⟨c2, 0, none⟩)]])) ∧ Below w.heap.size w w' := by
  go_enter Tryd.func92, Tryd.ntmps92
  go_upto_region 1 with fail
  have hb1 : Below w.heap.size w (w.alloc (.cells #[.pointer (some ⟨b, o, none⟩)] 108)) := Below.alloc (Below.refl _ _) (Nat.le_refl _) _
  have hx0 := (Kg.heap_cell (heap_alloc_new w (.cells #[.pointer (some ⟨b, o, none⟩)] 108 (0, 0))) 0).trans (show _ = some (.pointer (some ⟨b, o, none⟩)) from rfl)
  have hcl := (hb1.cell (p := ⟨b, o, none⟩) hb).trans hc
  have HB : Hid (Below w.heap.size w (w.alloc (.cells #[.pointer (some ⟨b, o, none⟩)] 108))) := hb1
  clear hc hb1
  generalize w.alloc (.cells #[.pointer (some ⟨b, o, none⟩)] 108) = W at *
  go_wp2
  go_ret
  exact ⟨_, rfl, HB.out⟩

theorem numbers1_enters : ∀ args w, (callFunc 95 args).run Tryd.prog w = .ok (.enter 95 args) w := enters_of Tryd.func95 (by kernel_rfl) rfl
theorem frames1_enters : ∀ args w, (callFunc 93 args).run Tryd.prog w = .ok (.enter 93 args) w := enters_of Tryd.func93 (by kernel_rfl) rfl

theorem numbers1_any (w : World) (c b o i q off n cap : Nat) (hc : w.cell? ⟨c, 0, none⟩ = some (.pointer (some ⟨b, o, none⟩))) (hb : w.cell? ⟨b, o, none⟩ = some (.slice (some ⟨q, off, none⟩) n cap)) (hi : i < n) (hn : n ≤ 1000000000) :
    Calls Tryd.prog 95 #[.int .i64 (i : Int), .pointer (some ⟨c, 0, none⟩)] w fun e w' => e = .returned (.iface 89 (.agg #[.pointer (some ⟨q, off + i, none⟩)])) ∧ w' = w := by
  have hiI : (i : Int) < (n : Int) := by omega
  go_enter Tryd.func95, Tryd.ntmps95
  go_wp2
  go_ret
  exact ⟨rfl, rfl⟩

set_option maxHeartbeats 4000000 in
/-- A list of numbers. -/
theorem numbers_any {n0 : Nat} {w : World} {R Q b o : Nat} {v : Value} {xs : List Nat} (hR : n0 ≤ R) (hQ : n0 ≤ Q) (hRs : R < w.heap.size) (hQs : Q < w.heap.size) (hb : b < n0) (hcell : w.cell? ⟨b, o, none⟩ = some v) (hv : Lrd n0 w v .i64 (xs.map Int.ofNat)) (hlen : xs.length ≤ 1000000000) (hx : ∀ x, x ∈ xs → x ≤ 9223372036854775807) :
    Calls Tryd.prog 68 #[.pointer (some ⟨b, o, none⟩)] w fun e w' => ∃ u, e = .returned (.iface 99 u) ∧ Below w.heap.size w w' ∧ PtC (Im.listE Im.num xs) (.iface 99 u) R w' Q := by
  have Hv : Hid (Lrd n0 w v .i64 (xs.map Int.ofNat)) := hv
  obtain ⟨a, cap, rfl, hcap, -⟩ := hv
  rw [List.length_map] at hcell Hv hcap
  go_enter Tryd.func68, Tryd.ntmps68
  go_upto_region 1 with fail
  have hb1 : Below w.heap.size w (w.alloc (.cells #[.pointer (some ⟨b, o, none⟩)] 110)) := Below.alloc (Below.refl _ _) (Nat.le_refl _) _
  have hx0 := (Kg.heap_cell (heap_alloc_new w (.cells #[.pointer (some ⟨b, o, none⟩)] 110 (0, 0))) 0).trans (show _ = some (.pointer (some ⟨b, o, none⟩)) from rfl)
  have hws : (w.alloc (.cells #[.pointer (some ⟨b, o, none⟩)] 110)).heap.size = w.heap.size + 1 := by simp
  have HB : Hid (Below w.heap.size w (w.alloc (.cells #[.pointer (some ⟨b, o, none⟩)] 110))) := hb1
  generalize w.alloc (.cells #[.pointer (some ⟨b, o, none⟩)] 110) = W at *
  have hC := listI_any W b o 95 w.heap.size xs.length cap a (by omega) ((hb1.cell (p := ⟨b, o, none⟩) (by show b < w.heap.size; omega)).trans hcell)
  clear hb1
  go_wp2_with fail
  refine hC.mono ?_
  rintro e w2 ⟨c2, rfl, b2⟩
  have HB2 : Hid (Below W.heap.size W w2) := b2
  have hx2 : Hid (w2.cell? ⟨w.heap.size, 0, none⟩ = some (.pointer (some ⟨b, o, none⟩))) := (b2.cell (p := ⟨w.heap.size, 0, none⟩) (by show w.heap.size < W.heap.size; omega)).trans hx0
  have HBw : Hid (Below w.heap.size w w2) := HB.out.trans (b2.mono HB.out.size)
  have Hcell : Hid (w2.cell? ⟨b, o, none⟩ = some (.slice a xs.length cap)) := (HBw.out.cell (p := ⟨b, o, none⟩) (by show b < w.heap.size; omega)).trans hcell
  have Hv2 : Hid (Lrd n0 w2 (.slice a xs.length cap) .i64 (xs.map Int.ofNat)) := Hv.out.below (HBw.out.mono (by omega))
  have hs2 : W.heap.size ≤ w2.heap.size := b2.size
  clear hC b2 hx0 hcell
  go_wp2
  go_ret
  refine ⟨_, rfl, HBw.out, ?_⟩
  have e1 : Im.listE Im.num xs = Im.num (xs.map Im.num).length ++ (xs.map Im.num).flatten := by simp [Im.listE, List.flatMap]
  rw [e1, show (xs.length : Int) = ((xs.map Im.num).length : Int) by simp]
  refine pt_list (by simpa using hlen) numbers1_enters (fun i l hl w5 Q5 k5 hR5 hQ5s => ?_)
  rw [List.getElem?_map, Option.map_eq_some_iff] at hl
  obtain ⟨x, hxi, rfl⟩ := hl
  have hil := (List.getElem?_eq_some_iff.1 hxi).1
  obtain ⟨bl, hQ5⟩ := k5.low (n0 := n0) (by omega) hR hQ
  obtain ⟨a', cap', e', -, hel⟩ := Hv2.out.below bl
  rw [List.length_map] at e'
  cases e'
  obtain ⟨q, off, rfl, hq, hce⟩ := hel i (Int.ofNat x) (by rw [List.getElem?_map, hxi]; rfl)
  refine (numbers1_any w5 w.heap.size b o i q off xs.length cap ((k5.cell (by omega) (by omega) (by omega)).trans hx2.out) ((bl.cell (p := ⟨b, o, none⟩) hb).trans Hcell.out) hil hlen).mono ?_
  rintro e w6 ⟨rfl, rfl⟩
  exact ⟨_, rfl, Below.refl _ _, pt_number (by have := k5.t.size; omega) (by omega) (by omega) hce (hx x (List.mem_of_getElem? hxi))⟩

theorem frames1_any (w : World) (c b o i q off n cap : Nat) (hc : w.cell? ⟨c, 0, none⟩ = some (.pointer (some ⟨b, o, none⟩))) (hb : w.cell? ⟨b, o, none⟩ = some (.slice (some ⟨q, off, none⟩) n cap)) (hi : i < n) (hn : n ≤ 1000000000) (Post : World → Value → Prop)
    (hC : Calls Tryd.prog 68 #[.pointer (some ⟨q, off + i, none⟩)] w fun e w' => ∃ u, e = .returned u ∧ Post w' u) :
    Calls Tryd.prog 93 #[.int .i64 (i : Int), .pointer (some ⟨c, 0, none⟩)] w fun e w' => ∃ u, e = .returned u ∧ Post w' u := by
  have hiI : (i : Int) < (n : Int) := by omega
  go_enter Tryd.func93, Tryd.ntmps93
  go_wp2_with fail
  refine hC.mono ?_
  rintro e w2 ⟨u, rfl, hP⟩
  have HP : Hid (Post w2 u) := hP
  clear hC hP
  go_wp2
  go_ret
  exact ⟨_, rfl, HP.out⟩

set_option maxHeartbeats 4000000 in
/-- A list of such lists. -/
theorem frames_any {n0 : Nat} {w : World} {R Q b o : Nat} {v : Value} {fs : List (Value × List Int)} (hR : n0 ≤ R) (hQ : n0 ≤ Q) (hRs : R < w.heap.size) (hQs : Q < w.heap.size) (hb : b < n0) (hcell : w.cell? ⟨b, o, none⟩ = some v) (hv : Frd n0 w v fs) (hlen : fs.length ≤ 1000000000) (hl : ∀ f, f ∈ fs → f.2.length ≤ 1000000000) (hx : ∀ f, f ∈ fs → ∀ z, z ∈ f.2 → 0 ≤ z ∧ z ≤ 9223372036854775807) :
    Calls Tryd.prog 65 #[.pointer (some ⟨b, o, none⟩)] w fun e w' => ∃ u, e = .returned (.iface 99 u) ∧ Below w.heap.size w w' ∧ PtC (Im.listE (Im.listE Im.num) (fs.map fun f => f.2.map Int.toNat)) (.iface 99 u) R w' Q := by
  have Hv : Hid (Frd n0 w v fs) := hv
  obtain ⟨a, cap, rfl, -⟩ := hv
  go_enter Tryd.func65, Tryd.ntmps65
  go_upto_region 1 with fail
  have hb1 : Below w.heap.size w (w.alloc (.cells #[.pointer (some ⟨b, o, none⟩)] 108)) := Below.alloc (Below.refl _ _) (Nat.le_refl _) _
  have hx0 := (Kg.heap_cell (heap_alloc_new w (.cells #[.pointer (some ⟨b, o, none⟩)] 108 (0, 0))) 0).trans (show _ = some (.pointer (some ⟨b, o, none⟩)) from rfl)
  have hws : (w.alloc (.cells #[.pointer (some ⟨b, o, none⟩)] 108)).heap.size = w.heap.size + 1 := by simp
  have HB : Hid (Below w.heap.size w (w.alloc (.cells #[.pointer (some ⟨b, o, none⟩)] 108))) := hb1
  generalize w.alloc (.cells #[.pointer (some ⟨b, o, none⟩)] 108) = W at *
  have hC := listS_any W b o 93 w.heap.size fs.length cap a (by omega) ((hb1.cell (p := ⟨b, o, none⟩) (by show b < w.heap.size; omega)).trans hcell)
  clear hb1
  go_wp2_with fail
  refine hC.mono ?_
  rintro e w2 ⟨c2, rfl, b2⟩
  have HB2 : Hid (Below W.heap.size W w2) := b2
  have hx2 : Hid (w2.cell? ⟨w.heap.size, 0, none⟩ = some (.pointer (some ⟨b, o, none⟩))) := (b2.cell (p := ⟨w.heap.size, 0, none⟩) (by show w.heap.size < W.heap.size; omega)).trans hx0
  have HBw : Hid (Below w.heap.size w w2) := HB.out.trans (b2.mono HB.out.size)
  have Hcell : Hid (w2.cell? ⟨b, o, none⟩ = some (.slice a fs.length cap)) := (HBw.out.cell (p := ⟨b, o, none⟩) (by show b < w.heap.size; omega)).trans hcell
  have Hv2 : Hid (Frd n0 w2 (.slice a fs.length cap) fs) := Hv.out.below (HBw.out.mono (by omega))
  have hs2 : W.heap.size ≤ w2.heap.size := b2.size
  clear hC b2 hx0 hcell
  go_wp2
  go_ret
  refine ⟨_, rfl, HBw.out, ?_⟩
  have e1 : Im.listE (Im.listE Im.num) (fs.map fun f => f.2.map Int.toNat) = Im.num (fs.map fun f => Im.listE Im.num (f.2.map Int.toNat)).length ++ (fs.map fun f => Im.listE Im.num (f.2.map Int.toNat)).flatten := by simp [Im.listE, List.flatMap, Function.comp_def]
  rw [e1, show (fs.length : Int) = ((fs.map fun f => Im.listE Im.num (f.2.map Int.toNat)).length : Int) by simp]
  refine pt_list (by simpa using hlen) frames1_enters (fun i l hl' w5 Q5 k5 hR5 hQ5s => ?_)
  rw [List.getElem?_map, Option.map_eq_some_iff] at hl'
  obtain ⟨x, hxi, rfl⟩ := hl'
  have hil := (List.getElem?_eq_some_iff.1 hxi).1
  have hm := List.mem_of_getElem? hxi
  obtain ⟨bl, hQ5⟩ := k5.low (n0 := n0) (by omega) hR hQ
  obtain ⟨a', cap', e', hel⟩ := Hv2.out.below bl
  cases e'
  obtain ⟨hlr, q, off, rfl, hq, hce⟩ := hel i x hxi
  have hs5 := k5.t.size
  refine (frames1_any w5 w.heap.size b o i q off fs.length cap ((k5.cell (by omega) (by omega) (by omega)).trans hx2.out) ((bl.cell (p := ⟨b, o, none⟩) hb).trans Hcell.out) hil hlen (fun w' u => Below w5.heap.size w5 w' ∧ PtC (Im.listE Im.num (x.2.map Int.toNat)) u R w' Q5) ?_).mono (fun e w6 h => h)
  refine (numbers_any (xs := x.2.map Int.toNat) hR hQ5 hR5 hQ5s hq hce ?_ (by simpa using hl x hm) (fun y hy => ?_)).mono (fun e w6 ⟨u, he, h⟩ => ⟨_, he, h⟩)
  · have e2 : (x.2.map Int.toNat).map Int.ofNat = x.2 := Im.map_ofNat_toNat (fun z hz => (hx x hm z hz).1)
    rw [e2]
    exact hlr
  · obtain ⟨z, hz, rfl⟩ := List.mem_map.1 hy
    have := hx x hm z hz
    omega

end Go.Proofs.YtblbiikfipcbcaaDoor

