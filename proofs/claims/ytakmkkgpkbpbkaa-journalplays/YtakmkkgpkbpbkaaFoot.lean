/- Own contracts: a disk with its footprint in the open; all its calls once more. No statement is proved here. -/
import Derived.Test.YtakmkkgpkbpbkaaCat
namespace Go.Proofs.Ytakmkkgpkbpbkaa
open Go.RowKit
set_option linter.unusedVariables false
set_option linter.unusedSimpArgs false

/-- The least footprint. -/
def Foot (D S : Nat) (wv : Value) (k : Nat) : Prop := k = D ∨ k = S ∨ wv.ownBlock = some k
theorem DiskIn.small {w : World} {F : Nat → Prop} {D S sc : Nat} {wv : Value} {d : DiskM} (h : DiskIn w F D S sc wv d) : DiskIn w (Foot D S wv) D S sc wv d :=
  { h with fD := .inl rfl, fS := .inr (.inl rfl), fw := fun k hk => .inr (.inr hk) }
theorem DiskIn.foot_lt {w : World} {F : Nat → Prop} {D S sc : Nat} {wv : Value} {d : DiskM} (h : DiskIn w F D S sc wv d) : ∀ k, Foot D S wv k → k < w.heap.size := fun k hk => by
  rcases hk with rfl | rfl | hk
  · exact h.head.lt
  · exact h.slt
  · exact (h.wet.lt k hk).2
theorem DiskIn.foot_in {w : World} {F : Nat → Prop} {D S sc : Nat} {wv : Value} {d : DiskM} (h : DiskIn w F D S sc wv d) : ∀ k, Foot D S wv k → F k := fun k hk => by
  rcases hk with rfl | rfl | hk
  · exact h.fD
  · exact h.fS
  · exact h.fw k hk

/-- Counts that fit. -/
structure Fits (d : DiskM) : Prop where
  acts : d.acts < 4611686018427387904
  left : d.left < 4611686018427387904
  wet : d.wet.length ≤ 1000000000000

def DiskM.write (d : DiskM) (i : Int) (xs : List Int) : DiskM × Int :=
  if (0 ≤ i ∧ i < (d.safe.length : Int)) ∧ xs.length ≤ 64 then (if d.off then (d, 9) else (({ d with wet := d.wet ++ [(i.toNat, pad64 xs)] } : DiskM).act, ({ d with wet := d.wet ++ [(i.toNat, pad64 xs)] } : DiskM).actE)) else (d, 1)
theorem DiskM.actE_two (d : DiskM) : d.actE = 0 ∨ d.actE = 9 := by
  unfold DiskM.actE
  split
  · exact .inl rfl
  · split
    · exact .inr rfl
    · exact .inl rfl
def DiskM.flush (d : DiskM) : DiskM × Int := if d.off then (d, 9) else if d.actE = 9 then (d.act, 9) else (d.act.flushed, 0)

/-- A disk, and its footprint. -/
def DH (w : World) (F : Nat → Prop) (D : Nat) (d : DiskM) : Prop := (∃ S sc wv, DiskIn w F D S sc wv d) ∧ ∀ k, F k → k < w.heap.size
theorem DH.of {w : World} {F : Nat → Prop} {D S sc : Nat} {wv : Value} {d : DiskM} (h : DiskIn w F D S sc wv d) : ∃ F', DH w F' D d ∧ ∀ k, F' k → F k :=
  ⟨Foot D S wv, ⟨⟨S, sc, wv, h.small⟩, h.foot_lt⟩, h.foot_in⟩
theorem DH.turn {w w' : World} {F G : Nat → Prop} {D : Nat} {d : DiskM} (h : DH w F D d) (ht : Turn G w w') (hn : ∀ k, F k → ¬ G k) : DH w' F D d := by
  obtain ⟨⟨S, sc, wv, hd⟩, hl⟩ := h
  exact ⟨⟨S, sc, wv, hd.turn ht hn⟩, fun k hk => Nat.lt_of_lt_of_le (hl k hk) ht.size⟩
theorem DH.turn0 {w w' : World} {F : Nat → Prop} {D : Nat} {d : DiskM} (h : DH w F D d) (ht : Turn (fun _ => False) w w') : DH w' F D d := h.turn ht (fun _ _ => id)
theorem DH.ok {w : World} {F : Nat → Prop} {D : Nat} {d : DiskM} (h : DH w F D d) : d.Ok := by
  obtain ⟨⟨S, sc, wv, hd⟩, hl⟩ := h; exact hd.ok
theorem DH.few {w : World} {F : Nat → Prop} {D : Nat} {d : DiskM} (h : DH w F D d) : d.safe.length ≤ 4096 := by
  obtain ⟨⟨S, sc, wv, hd⟩, hl⟩ := h; exact hd.few
theorem DH.lt {w : World} {F : Nat → Prop} {D : Nat} {d : DiskM} (h : DH w F D d) : D < w.heap.size := by
  obtain ⟨⟨S, sc, wv, hd⟩, hl⟩ := h; exact hd.head.lt
/-- From one to another: only the footprint turns, it grows by what is new. -/
structure Step (w : World) (F : Nat → Prop) (w' : World) (F' : Nat → Prop) : Prop where
  grown : ∀ k, F' k → F k ∨ w.heap.size ≤ k
  turn : Turn F w w'
theorem Step.refl (w : World) (F : Nat → Prop) : Step w F w F := ⟨fun _ h => .inl h, Turn.refl _ _⟩
theorem Step.of0 {w w' : World} (F : Nat → Prop) (h : Turn (fun _ => False) w w') : Step w F w' F := ⟨fun _ h => .inl h, h.mono (fun _ _ h => h.elim)⟩
theorem Step.trans {w1 w2 w3 : World} {F1 F2 F3 : Nat → Prop} (a : Step w1 F1 w2 F2) (b : Step w2 F2 w3 F3) : Step w1 F1 w3 F3 := by
  have hs := a.turn.size
  refine ⟨fun k h => ?_, a.turn.trans b.turn (fun i hi h => ?_)⟩
  · rcases b.grown k h with h | h
    · exact a.grown k h
    · exact .inr (Nat.le_trans hs h)
  · rcases a.grown i h with h | h
    · exact h
    · omega
/-- What is old and not of the footprint is not of the new one. -/
theorem Step.out {w w' : World} {F F' : Nat → Prop} (a : Step w F w' F') {k : Nat} (hk : k < w.heap.size) (hn : ¬ F k) : ¬ F' k := fun h => by
  rcases a.grown k h with h | h
  · exact hn h
  · omega
def DStep (w : World) (F : Nat → Prop) (D : Nat) (d' : DiskM) (r : Value) (e : Ending) (w' : World) : Prop := e = .returned r ∧ ∃ F', DH w' F' D d' ∧ Step w F w' F'

theorem new_dh (n : Nat) (w : World) (i : Int) (hi : min (max i 0) 4096 = (n : Int)) :
    Calls Try.prog 9 #[.int .i64 i] w fun e w' => ∃ D F, e = .returned (.pointer (some ⟨D, 0, none⟩)) ∧ DH w' F D (newM n) ∧ (∀ k, F k → w.heap.size ≤ k) ∧ Turn (fun _ => False) w w' := by
  refine (new_any n w i hi).mono ?_
  rintro e w1 ⟨F, D, S, sc, rfl, hd, hF, t1⟩
  obtain ⟨F', h', hi'⟩ := DH.of hd
  exact ⟨D, F', rfl, h', fun k hk => hF k (hi' k hk), t1⟩
theorem write_dh (w : World) (F : Nat → Prop) (D : Nat) (d : DiskM) (i : Int) (v : Value) (xs : List Int) (h : DH w F D d) (hf : Fits d) (hv : Src w v xs) (hx : BytesOk xs) :
    Calls Try.prog 38 #[.pointer (some ⟨D, 0, none⟩), .int .i64 i, v] w (DStep w F D (d.write i xs).1 (.int .i64 (d.write i xs).2)) := by
  have h0 := h
  obtain ⟨⟨S, sc, wv, hd⟩, hl⟩ := h
  unfold DiskM.write
  by_cases hin : (0 ≤ i ∧ i < (d.safe.length : Int)) ∧ xs.length ≤ 64
  · rw [if_pos hin]
    obtain ⟨k, rfl⟩ := Int.eq_ofNat_of_zero_le hin.1.1
    obtain ⟨a, c, rfl, _⟩ := src_any hv
    cases hoff : d.off with
    | true =>
      rw [if_pos rfl]
      refine (write_off w F D S sc wv d k a xs.length c hd (by omega) hin.2 hoff).mono ?_
      rintro e w' ⟨rfl, rfl⟩
      exact ⟨rfl, F, h0, Step.refl _ _⟩
    | false =>
      rw [if_neg (by decide), Int.toNat_natCast]
      refine (write_good w F D S sc wv d k _ xs hd (by omega) hoff hv hx hin.2 hf.wet hf.acts hf.left).mono ?_
      rintro e w' ⟨rfl, F', S', sc', wv', hd', hg, t⟩
      rw [hoff] at hd'
      obtain ⟨F2, h2, hi2⟩ := DH.of hd'
      exact ⟨rfl, F2, h2, fun k hk => hg.2 k (hi2 k hk), t⟩
  · rw [if_neg hin]
    obtain ⟨a, c, rfl, _⟩ := src_any hv
    refine (write_bad w F D S sc wv d i a xs.length c hd (by omega)).mono ?_
    rintro e w' ⟨rfl, rfl⟩
    exact ⟨rfl, F, h0, Step.refl _ _⟩
theorem flush_dh (w : World) (F : Nat → Prop) (D : Nat) (d : DiskM) (h : DH w F D d) (hf : Fits d) :
    Calls Try.prog 39 #[.pointer (some ⟨D, 0, none⟩)] w (DStep w F D d.flush.1 (.int .i64 d.flush.2)) := by
  have h0 := h
  obtain ⟨⟨S, sc, wv, hd⟩, hl⟩ := h
  unfold DiskM.flush
  cases hoff : d.off with
  | true =>
    rw [if_pos rfl]
    refine (flush_off w F D S sc wv d hd hoff).mono ?_
    rintro e w' ⟨rfl, rfl⟩
    exact ⟨rfl, F, h0, Step.refl _ _⟩
  | false =>
    rw [if_neg (by decide)]
    rcases DiskM.actE_two d with he | he
    · rw [if_neg (by omega)]
      refine (flush_good w F D S sc wv d hd hoff he hf.acts hf.left hf.wet).mono ?_
      rintro e w' ⟨rfl, hd', t⟩
      obtain ⟨F2, h2, hi2⟩ := DH.of hd'
      exact ⟨rfl, F2, h2, fun k hk => .inl (hi2 k hk), t⟩
    · rw [if_pos he]
      refine (flush_stop w F D S sc wv d hd hoff he hf.acts hf.left).mono ?_
      rintro e w' ⟨rfl, hd', t⟩
      obtain ⟨F2, h2, hi2⟩ := DH.of hd'
      exact ⟨rfl, F2, h2, fun k hk => .inl (hi2 k hk), t⟩
theorem arm_dh (w : World) (F : Nat → Prop) (D : Nat) (d : DiskM) (n : Int) (h : DH w F D d) (hn : -9223372036854775808 ≤ n ∧ n < 9223372036854775808) :
    Calls Try.prog 12 #[.pointer (some ⟨D, 0, none⟩), .int .i64 n] w (DStep w F D (d.armedBy n) (.tuple #[])) := by
  obtain ⟨⟨S, sc, wv, hd⟩, hl⟩ := h
  refine (disk_arm w F D S sc wv d n hd hn).mono ?_
  rintro e w' ⟨rfl, hd', t⟩
  obtain ⟨F2, h2, hi2⟩ := DH.of hd'
  exact ⟨rfl, F2, h2, fun k hk => .inl (hi2 k hk), t⟩
theorem crash_dh (w : World) (F : Nat → Prop) (D : Nat) (d : DiskM) (v : Value) (ms : List Int) (h : DH w F D d) (hf : Fits d) (hv : Src w v ms) (ho : 0 < ms.length → ∀ k, v.ownBlock = some k → ¬ F k) (hb : BytesOk ms) (hl : ms.length ≤ 9223372036854775807) :
    Calls Try.prog 16 #[.pointer (some ⟨D, 0, none⟩), v] w (DStep w F D (d.crashed ms) (.tuple #[])) := by
  obtain ⟨⟨S, sc, wv, hd⟩, hl0⟩ := h
  refine (crash_any w F D S sc wv d v ms hd hv ho hb hl hf.wet).mono ?_
  rintro e w' ⟨rfl, hd', t⟩
  obtain ⟨F2, h2, hi2⟩ := DH.of hd'
  exact ⟨rfl, F2, h2, fun k hk => .inl (hi2 k hk), t⟩
def ReadDH (w : World) (F : Nat → Prop) (D : Nat) (d : DiskM) (s : List Int) (e : Ending) (w' : World) : Prop :=
  ∃ B, e = .returned (.tuple #[.slice (some ⟨B, 0, none⟩) 64 64, .int .i64 0]) ∧ w.heap.size ≤ B ∧ w'.rangeAt B 0 (secV s) ∧ w'.there B 0 64 ∧ DH w' F D d ∧ Turn (fun _ => False) w w'
theorem read_dh (w : World) (F : Nat → Prop) (D : Nat) (d : DiskM) (k : Nat) (h : DH w F D d) (hf : Fits d) (hk : k < d.safe.length) (hoff : d.off = false) :
    Calls Try.prog 32 #[.pointer (some ⟨D, 0, none⟩), .int .i64 (k : Int)] w (ReadDH w F D d (d.last k)) := by
  have h0 := h
  obtain ⟨⟨S, sc, wv, hd⟩, hl⟩ := h
  refine (read_good w F D S sc wv d k hd hk hoff hf.wet).mono ?_
  rintro e w' ⟨B, rfl, hB, hr, hth, t⟩
  exact ⟨B, rfl, hB, hr, hth, h0.turn0 t, t⟩
theorem read_dh_off (w : World) (F : Nat → Prop) (D : Nat) (d : DiskM) (k : Nat) (h : DH w F D d) (hk : k < d.safe.length) (hoff : d.off = true) :
    Calls Try.prog 32 #[.pointer (some ⟨D, 0, none⟩), .int .i64 (k : Int)] w fun e w' => e = .returned (.tuple #[.slice none 0 0, .int .i64 9]) ∧ w' = w := by
  obtain ⟨⟨S, sc, wv, hd⟩, hl⟩ := h
  exact read_off w F D S sc wv d k hd hk hoff
theorem on_dh (w : World) (F : Nat → Prop) (D : Nat) (d : DiskM) (h : DH w F D d) : Calls Try.prog 33 #[.pointer (some ⟨D, 0, none⟩)] w fun e w' => e = .returned (.bool (!d.off)) ∧ w' = w := by
  obtain ⟨⟨S, sc, wv, hd⟩, hl⟩ := h
  exact on_any D _ w hd.head
theorem sectors_dh (w : World) (F : Nat → Prop) (D : Nat) (d : DiskM) (h : DH w F D d) : Calls Try.prog 20 #[.pointer (some ⟨D, 0, none⟩)] w fun e w' => e = .returned (.int .i64 (d.safe.length : Int)) ∧ w' = w := by
  obtain ⟨⟨S, sc, wv, hd⟩, hl⟩ := h
  exact sectors_any D _ _ _ _ w hd.head rfl
end Go.Proofs.Ytakmkkgpkbpbkaa
