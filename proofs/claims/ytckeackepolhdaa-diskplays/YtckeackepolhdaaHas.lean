/- Own contracts: a disk that a call has made, all its calls once more. No statement is proved here. -/
import Derived.Test.YtckeackepolhdaaAwake
namespace Go.Proofs.Ytckeackepolhdaa
open Go.RowKit
set_option linter.unusedVariables false
set_option linter.unusedSimpArgs false

/-- A disk that was made since w0. -/
def Has (w0 w : World) (D : Nat) (d : DiskM) : Prop := ∃ F S sc wv, DiskIn w F D S sc wv d ∧ (∀ k, F k → w0.heap.size ≤ k) ∧ Turn (fun _ => False) w0 w
theorem Has.turned {w0 w : World} {D : Nat} {d : DiskM} (h : Has w0 w D d) : Turn (fun _ => False) w0 w := by
  obtain ⟨_, _, _, _, _, _, h⟩ := h; exact h
theorem Has.turn {w0 w w' : World} {D : Nat} {d : DiskM} (h : Has w0 w D d) (ht : Turn (fun _ => False) w w') : Has w0 w' D d := by
  obtain ⟨F, S, sc, wv, hd, hF, hT⟩ := h
  exact ⟨F, S, sc, wv, hd.turn ht (fun _ _ => id), hF, hT.trans ht (fun _ _ => id)⟩
theorem Has.ok {w0 w : World} {D : Nat} {d : DiskM} (h : Has w0 w D d) : d.Ok := by
  obtain ⟨_, _, _, _, h, _⟩ := h; exact h.ok
/-- Counts that fit. -/
structure Fits (d : DiskM) : Prop where
  acts : d.acts < 4611686018427387904
  left : d.left < 4611686018427387904
  wet : d.wet.length ≤ 1000000000000

def RetHas (w0 : World) (D : Nat) (d : DiskM) (r : Value) (e : Ending) (w' : World) : Prop := e = .returned r ∧ Has w0 w' D d

theorem new_has (n : Nat) (w0 w : World) (i : Int) (hi : min (max i 0) 4096 = (n : Int)) (ht : Turn (fun _ => False) w0 w) :
    Calls Try.prog 10 #[.int .i64 i] w fun e w' => ∃ D, e = .returned (.pointer (some ⟨D, 0, none⟩)) ∧ Has w0 w' D (newM n) := by
  refine (new_any n w i hi).mono ?_
  rintro e w1 ⟨F, D, S, sc, rfl, hd, hF, t1⟩
  exact ⟨D, rfl, F, S, sc, _, hd, fun k hk => Nat.le_trans ht.size (hF k hk), ht.trans t1 (fun _ _ => id)⟩

def DiskM.write (d : DiskM) (i : Int) (xs : List Int) : DiskM × Int :=
  if (0 ≤ i ∧ i < (d.safe.length : Int)) ∧ xs.length ≤ 64 then (if d.off then (d, 9) else (({ d with wet := d.wet ++ [(i.toNat, pad64 xs)] } : DiskM).act, ({ d with wet := d.wet ++ [(i.toNat, pad64 xs)] } : DiskM).actE)) else (d, 1)
theorem write_has (w0 w : World) (D : Nat) (d : DiskM) (i : Int) (v : Value) (xs : List Int) (h : Has w0 w D d) (hf : Fits d) (hv : Src w v xs) (hx : BytesOk xs) :
    Calls Try.prog 14 #[.pointer (some ⟨D, 0, none⟩), .int .i64 i, v] w (RetHas w0 D (d.write i xs).1 (.int .i64 (d.write i xs).2)) := by
  obtain ⟨F, S, sc, wv, hd, hF, hT⟩ := h
  unfold DiskM.write
  by_cases hin : (0 ≤ i ∧ i < (d.safe.length : Int)) ∧ xs.length ≤ 64
  · rw [if_pos hin]
    obtain ⟨k, rfl⟩ := Int.eq_ofNat_of_zero_le hin.1.1
    obtain ⟨a, c, rfl, _⟩ := src_any hv
    cases hoff : d.off with
    | true =>
      rw [if_pos rfl]
      refine (write_off w F D S sc wv d k a xs.length c hd (by omega) hin.2 hoff).mono ?_
      rintro e w' ⟨rfl, rfl⟩
      exact ⟨rfl, F, S, sc, wv, hd, hF, hT⟩
    | false =>
      rw [if_neg (by decide), Int.toNat_natCast]
      refine (write_good w F D S sc wv d k _ xs hd (by omega) hoff hv hx hin.2 hf.wet hf.acts hf.left).mono ?_
      rintro e w' ⟨rfl, F', S', sc', wv', hd', hg, t⟩
      rw [hoff] at hd'
      refine ⟨rfl, F', S', sc', wv', hd', fun q hq => ?_, hT.trans t (fun q hq h => by have := hF q h; omega)⟩
      rcases hg.2 q hq with h | h
      · exact hF q h
      · exact Nat.le_trans hT.size h
  · rw [if_neg hin]
    obtain ⟨a, c, rfl, _⟩ := src_any hv
    refine (write_bad w F D S sc wv d i a xs.length c hd (by omega)).mono ?_
    rintro e w' ⟨rfl, rfl⟩
    exact ⟨rfl, F, S, sc, wv, hd, hF, hT⟩

theorem DiskM.actE_two (d : DiskM) : d.actE = 0 ∨ d.actE = 9 := by
  unfold DiskM.actE
  split
  · exact .inl rfl
  · split
    · exact .inr rfl
    · exact .inl rfl
def DiskM.flush (d : DiskM) : DiskM × Int := if d.off then (d, 9) else if d.actE = 9 then (d.act, 9) else (d.act.flushed, 0)
theorem flush_has (w0 w : World) (D : Nat) (d : DiskM) (h : Has w0 w D d) (hf : Fits d) :
    Calls Try.prog 11 #[.pointer (some ⟨D, 0, none⟩)] w (RetHas w0 D d.flush.1 (.int .i64 d.flush.2)) := by
  obtain ⟨F, S, sc, wv, hd, hF, hT⟩ := h
  unfold DiskM.flush
  cases hoff : d.off with
  | true =>
    rw [if_pos rfl]
    refine (flush_off w F D S sc wv d hd hoff).mono ?_
    rintro e w' ⟨rfl, rfl⟩
    exact ⟨rfl, F, S, sc, wv, hd, hF, hT⟩
  | false =>
    rw [if_neg (by decide)]
    rcases DiskM.actE_two d with he | he
    · rw [if_neg (by omega)]
      refine (flush_good w F D S sc wv d hd hoff he hf.acts hf.left hf.wet).mono ?_
      rintro e w' ⟨rfl, hd', t⟩
      exact ⟨rfl, F, S, sc, _, hd', hF, hT.trans t (fun q hq h => by have := hF q h; omega)⟩
    · rw [if_pos he]
      refine (flush_stop w F D S sc wv d hd hoff he hf.acts hf.left).mono ?_
      rintro e w' ⟨rfl, hd', t⟩
      exact ⟨rfl, F, S, sc, _, hd', hF, hT.trans t (fun q hq h => by have := hF q h; omega)⟩
theorem arm_has (w0 w : World) (D : Nat) (d : DiskM) (n : Int) (h : Has w0 w D d) (hn : -9223372036854775808 ≤ n ∧ n < 9223372036854775808) :
    Calls Try.prog 12 #[.pointer (some ⟨D, 0, none⟩), .int .i64 n] w (RetHas w0 D (d.armedBy n) (.tuple #[])) := by
  obtain ⟨F, S, sc, wv, hd, hF, hT⟩ := h
  refine (disk_arm w F D S sc wv d n hd hn).mono ?_
  rintro e w' ⟨rfl, hd', t⟩
  exact ⟨rfl, F, S, sc, _, hd', hF, hT.trans t (fun q hq h => by have := hF q h; omega)⟩
/-- A mask from elsewhere. -/
def Old (w0 : World) (v : Value) (xs : List Int) : Prop := 0 < xs.length → ∀ k, v.ownBlock = some k → k < w0.heap.size
theorem crash_has (w0 w : World) (D : Nat) (d : DiskM) (v : Value) (ms : List Int) (h : Has w0 w D d) (hf : Fits d) (hv : Src w v ms) (ho : Old w0 v ms) (hb : BytesOk ms) (hl : ms.length ≤ 9223372036854775807) :
    Calls Try.prog 13 #[.pointer (some ⟨D, 0, none⟩), v] w (RetHas w0 D (d.crashed ms) (.tuple #[])) := by
  obtain ⟨F, S, sc, wv, hd, hF, hT⟩ := h
  refine (crash_any w F D S sc wv d v ms hd hv (fun h0 k hk hFk => by have := ho h0 k hk; have := hF k hFk; omega) hb hl hf.wet).mono ?_
  rintro e w' ⟨rfl, hd', t⟩
  exact ⟨rfl, F, S, sc, _, hd', hF, hT.trans t (fun q hq h => by have := hF q h; omega)⟩
/-- A mask that was just made. -/
theorem crash_has_new (w0 w : World) (D : Nat) (d : DiskM) (x : Int) (h : Has w0 w D d) (hf : Fits d) (hx : 0 ≤ x ∧ x < 256) :
    Calls Try.prog 13 #[.pointer (some ⟨D, 0, none⟩), .slice (some ⟨w.heap.size, 0, none⟩) 1 1] (w.alloc (.cells #[.int .u8 x] 5)) (RetHas w0 D (d.crashed [x]) (.tuple #[])) := by
  obtain ⟨F, S, sc, wv, hd, hF, hT⟩ := h
  have t1 := (Turn.refl (fun _ => False) w).alloc (.cells #[.int .u8 x] 5)
  have hlt := hd.foot_lt
  have hin := hd.foot_in
  refine (crash_any _ _ D S sc wv d _ [x] (hd.small.turn t1 (fun _ _ => id)) (.inl (one_reads w x (0, 0))) (fun h0 k hk hFk => by
    have h1 := hlt k hFk
    have h2 : w.heap.size = k := by simpa [Value.ownBlock] using hk
    omega) (one_ok x hx) (by simp) hf.wet).mono ?_
  rintro e w' ⟨rfl, hd', t⟩
  exact ⟨rfl, _, S, sc, _, hd', fun k hk => hF k (by
    rcases hk with h | h | h
    · exact hin k (.inl h)
    · exact hin k (.inr (.inl h))
    · exact hin k (.inr (.inr h))), (hT.trans t1 (fun _ _ => id)).trans t (fun q hq h => by have := hF q (hin q h); omega)⟩
def ReadHas (w0 w : World) (D : Nat) (d : DiskM) (s : List Int) (e : Ending) (w' : World) : Prop :=
  ∃ B, e = .returned (.tuple #[.slice (some ⟨B, 0, none⟩) 64 64, .int .i64 0]) ∧ w.heap.size ≤ B ∧ w'.rangeAt B 0 (secV s) ∧ w'.there B 0 64 ∧ Turn (fun _ => False) w w' ∧ Has w0 w' D d
theorem read_has (w0 w : World) (D : Nat) (d : DiskM) (k : Nat) (h : Has w0 w D d) (hf : Fits d) (hk : k < d.safe.length) (hoff : d.off = false) :
    Calls Try.prog 19 #[.pointer (some ⟨D, 0, none⟩), .int .i64 (k : Int)] w (ReadHas w0 w D d (d.last k)) := by
  have h' := h
  obtain ⟨F, S, sc, wv, hd, hF, hT⟩ := h
  refine (read_good w F D S sc wv d k hd hk hoff hf.wet).mono ?_
  rintro e w' ⟨B, rfl, hB, hr, hth, t⟩
  exact ⟨B, rfl, hB, hr, hth, t, h'.turn t⟩
theorem read_has_off (w0 w : World) (D : Nat) (d : DiskM) (k : Nat) (h : Has w0 w D d) (hk : k < d.safe.length) (hoff : d.off = true) :
    Calls Try.prog 19 #[.pointer (some ⟨D, 0, none⟩), .int .i64 (k : Int)] w fun e w' => e = .returned (.tuple #[.slice none 0 0, .int .i64 9]) ∧ w' = w := by
  obtain ⟨F, S, sc, wv, hd, hF, hT⟩ := h
  exact read_off w F D S sc wv d k hd hk hoff
theorem on_has (w0 w : World) (D : Nat) (d : DiskM) (h : Has w0 w D d) : Calls Try.prog 16 #[.pointer (some ⟨D, 0, none⟩)] w fun e w' => e = .returned (.bool (!d.off)) ∧ w' = w := by
  obtain ⟨F, S, sc, wv, hd, hF, hT⟩ := h
  exact on_any D _ w hd.head
theorem acts_has (w0 w : World) (D : Nat) (d : DiskM) (h : Has w0 w D d) : Calls Try.prog 17 #[.pointer (some ⟨D, 0, none⟩)] w fun e w' => e = .returned (.int .i64 (d.acts : Int)) ∧ w' = w := by
  obtain ⟨F, S, sc, wv, hd, hF, hT⟩ := h
  exact acts_any D _ w hd.head
theorem sectors_has (w0 w : World) (D : Nat) (d : DiskM) (h : Has w0 w D d) : Calls Try.prog 18 #[.pointer (some ⟨D, 0, none⟩)] w fun e w' => e = .returned (.int .i64 (d.safe.length : Int)) ∧ w' = w := by
  obtain ⟨F, S, sc, wv, hd, hF, hT⟩ := h
  exact sectors_any D _ _ _ _ w hd.head rfl
theorem wet_has (w0 w : World) (D : Nat) (d : DiskM) (h : Has w0 w D d) : Calls Try.prog 15 #[.pointer (some ⟨D, 0, none⟩)] w fun e w' => e = .returned (.int .i64 (d.wet.length : Int)) ∧ w' = w := by
  obtain ⟨F, S, sc, wv, hd, hF, hT⟩ := h
  obtain ⟨a, c, rfl⟩ := wet_form hd.wet
  exact wet_any D _ _ _ _ w hd.head rfl
/-- Another one: each goes its own way. -/
theorem twin_has (w0 w : World) (D : Nat) (d : DiskM) (h : Has w0 w D d) (hf : Fits d) :
    Calls Try.prog 20 #[.pointer (some ⟨D, 0, none⟩)] w fun e w' => ∃ T, e = .returned (.pointer (some ⟨T, 0, none⟩)) ∧ Has w0 w' D d ∧ Has w w' T d := by
  have h' := h
  obtain ⟨F, S, sc, wv, hd, hF, hT⟩ := h
  refine (twin_any w F D S sc wv d hd hf.wet).mono ?_
  rintro e w' ⟨F', T, S', sc', wv', rfl, hd', hF', t⟩
  exact ⟨T, rfl, h'.turn t, F', S', sc', wv', hd', hF', t⟩
/-- What is done to the twin leaves the first one alone. -/
theorem Has.apart {w0 w1 w w' : World} {D : Nat} {d : DiskM} (h : Has w0 w1 D d) (ht : Turn (fun _ => False) w1 w') : Has w0 w' D d := h.turn ht
end Go.Proofs.Ytckeackepolhdaa
