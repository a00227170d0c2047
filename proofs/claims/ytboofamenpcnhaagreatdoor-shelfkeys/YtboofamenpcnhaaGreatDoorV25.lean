/- Own texts, packed: Q33. -/
import Derived.Test.YtboofamenpcnhaaGreatDoorV24
import Derived.Lib.SlBytesConst
namespace Go.Proofs.YtboofamenpcnhaaGreatDoor
set_option maxRecDepth 100000
open Go.RowKit
set_option linter.unusedVariables false
set_option linter.unusedSimpArgs false
/-- A disk at rest, that tells C. -/
structure DC (w : World) (F : Nat → Prop) (D : Nat) (d : DiskM) (L : Nat) (C : List (List Int)) (n : Nat) : Prop where
  dh : DH w F D d
  calm : Calm d L C
  room : Room n d
  small : 0 < C.length ∧ C.length ≤ 4047
/-- A journal of such a disk. -/
structure JC (w : World) (F : Nat → Prop) (J D : Nat) (d : DiskM) (L : Nat) (C : List (List Int)) (n : Nat) : Prop where
  jh : JH w F J D d L
  calm : Calm d L C
  set : Settled d.safe C
  room : Room n d
  small : 0 < C.length ∧ C.length ≤ 4047
  lim : L + n < 4294967296
theorem JC.turn0 {w w' : World} {F : Nat → Prop} {J D : Nat} {d : DiskM} {L : Nat} {C : List (List Int)} {n : Nat} (h : JC w F J D d L C n) (t : Turn (fun _ => False) w w') : JC w' F J D d L C n := { h with jh := h.jh.turn0 t }
theorem DC.turn0 {w w' : World} {F : Nat → Prop} {D : Nat} {d : DiskM} {L : Nat} {C : List (List Int)} {n : Nat} (h : DC w F D d L C n) (t : Turn (fun _ => False) w w') : DC w' F D d L C n := { h with dh := h.dh.turn0 t }
theorem new_room (k n : Nat) (h : n ≤ 1000000) : Room n (newM k) := ⟨by show 0 + n < _; omega, by show 0 < _; omega, by show 0 + n ≤ _; omega⟩
theorem new_h (w : World) (k n : Nat) (hk : 49 < k ∧ k ≤ 4096) (hn : n ≤ 1000000) :
    Calls Tryz.prog 19 #[.int .i64 (k : Int)] w fun e w' => ∃ D F, e = .returned (.pointer (some ⟨D, 0, none⟩)) ∧ DC w' F D (newM k) 0 (List.replicate (k - 49) noughts) n ∧ (∀ q, F q → w.heap.size ≤ q) ∧ Turn (fun _ => False) w w' := by
  refine (new_dh k w (k : Int) (by omega)).mono ?_
  rintro e w' ⟨D, F, rfl, h1, h2, h3⟩
  exact ⟨D, F, rfl, ⟨h1, (new_calm k hk.1).1, new_room k n hn, by simp; omega⟩, h2, h3⟩
theorem open_room {d : DiskM} {n : Nat} (h : Room (n + 100) d) (hok : d.Ok) : Room n (openM d).1 := by
  unfold openM
  split
  · exact h.less (by omega)
  · split
    · exact h.less (by omega)
    · rename_i h49 _
      cases hb : begunM (secsOf d 49) with
      | none => exact h.less (by omega)
      | some l =>
        dsimp only
        have hl := (begunM_ok (fun s hs => (secsOf_ok hok (by omega) s hs).2) hb).1
        unfold finishM
        split
        · exact Room.run (h.less (by simp [layA]; omega))
        · exact h.less (by omega)
/-- Opened, where nothing stops. -/
theorem open_h (w : World) (F : Nat → Prop) (D : Nat) (d : DiskM) (L : Nat) (C : List (List Int)) (n : Nat) (h : DC w F D d L C (n + 100)) (ha : d.armed = false) (hL : L + n < 4294967296) :
    Calls Tryz.prog 18 #[.pointer (some ⟨D, 0, none⟩)] w fun e w' => ∃ J F' d' L', e = .returned (.tuple #[.pointer (some ⟨J, 0, none⟩), .int .i64 0]) ∧ JC w' F' J D d' L' C n ∧ d'.armed = false ∧ w.heap.size ≤ J ∧ Step w F w' F' ∧ L' ≤ L := by
  have hlen := h.calm.calm.len
  refine (open_any w F D d h.dh (h.room.less (by omega)) (by have := h.small.1; omega) h.calm.off).mono ?_
  rintro e w' ⟨F', hd, hs, hp⟩
  rcases open_run h.calm h.small.1 with ⟨r1, r2, r3, r4, r5⟩ | ⟨r0, _⟩
  · rw [if_pos r1] at hp
    obtain ⟨J, rfl, hJ, hjh⟩ := hp
    exact ⟨J, F', _, _, rfl, ⟨hjh, r2, r3, open_room h.room h.dh.ok, h.small, by omega⟩, r5.trans ha, hJ, hs, r4⟩
  · rw [ha] at r0; simp at r0
theorem putM_nil (C : List (List Int)) : putM C [] = C := by
  refine List.ext_getElem? (fun i => ?_)
  by_cases hi : i < C.length
  · simp [putM, hi, layW, lastW, List.getD]
  · simp [putM, hi]
theorem jwrite_room {d : DiskM} {L n : Nat} {l : List (Int × List Int)} (h : Room (n + 200) d) : Room n (jwriteM d L l).1.1 := by
  unfold jwriteM
  split
  · exact h.less (by omega)
  · split
    · split
      · exact h.less (by omega)
      · exact Room.run (h.less (by simp [txA, noteAll, noteA_len, layA]; omega))
    · exact h.less (by omega)
/-- Written, where nothing stops. -/
theorem write_h (w : World) (F R : Nat → Prop) (J D : Nat) (d : DiskM) (L : Nat) (C : List (List Int)) (n : Nat) (v : Value) (l : List (Int × List Int)) (h : JC w F J D d L C (n + 200)) (ha : d.armed = false)
    (hp : PagesIn w R v l) (hR : ∀ k, R k → k < w.heap.size ∧ ¬ F k ∧ k ≠ J) (hb : ∀ x ∈ l, BytesOk x.2) (hl : l.length ≤ 24) (hfit : fitsB C.length l = true) :
    Calls Tryz.prog 39 #[.pointer (some ⟨J, 0, none⟩), v] w fun e w' => e = .returned (.int .i64 0) ∧ ∃ F' d' L', JC w' F' J D d' L' (putM C l) n ∧ d'.armed = false ∧ StepJ w F J w' F' := by
  have hlen := h.calm.calm.len
  have hlim := h.lim
  refine (jwrite_any w F R J D d L v l h.jh hp hR hb (by omega) (h.room.less (by omega)) (by omega)).mono ?_
  rintro e w' ⟨rfl, F', hj, hs⟩
  have hfit' : fitsB (d.safe.length - 49) l = true := by rw [hlen, show 49 + C.length - 49 = C.length by omega]; exact hfit
  have hroom := jwrite_room (L := L) (l := l) h.room
  by_cases h0 : l.length = 0
  · have hm : jwriteM d L l = ((d, 0), L) := by unfold jwriteM; rw [if_neg (by omega), if_pos hfit', if_pos h0]
    obtain rfl : l = [] := List.eq_nil_of_length_eq_zero h0
    rw [hm] at hj hroom ⊢
    exact ⟨rfl, F', d, L, ⟨hj, by rw [putM_nil]; exact h.calm, by rw [putM_nil]; exact h.set, hroom, by rw [putM_nil]; exact h.small, by omega⟩, ha, hs⟩
  · have hm : jwriteM d L l = (DiskM.run (txA ((L + 1 : Nat) : Int) l) d, L + 1) := by unfold jwriteM; rw [if_neg (by omega), if_pos hfit', if_neg h0]
    rw [hm] at hj hroom ⊢
    rcases write_run h.calm h.set h.small.1 h.small.2 hl hfit (by omega) with ⟨r1, r2, r3, r4⟩ | ⟨r0, _⟩
    · exact ⟨by rw [r1], F', _, _, ⟨hj, r2, r3, hroom, by rw [putM_len]; exact h.small, by omega⟩, r4.trans ha, hs⟩
    · rw [ha] at r0; simp at r0
theorem JC.told {w : World} {F : Nat → Prop} {J D : Nat} {d : DiskM} {L : Nat} {C : List (List Int)} {n : Nat} (h : JC w F J D d L C n) (k : Nat) (hk : k < C.length) : d.last (49 + k) = C.getD k [] ∧ (C.getD k []).length = 64 ∧ BytesOk (C.getD k []) := by
  have e : d.last (49 + k) = C.getD k [] := by
    unfold DiskM.last
    rw [h.calm.wet]
    exact h.set k hk
  have hlen := h.calm.calm.len
  have := h.jh.dh.ok.last (49 + k) (by omega)
  rw [e] at this
  exact ⟨e, this⟩
/-- Read. -/
theorem read_h (w : World) (F : Nat → Prop) (J D : Nat) (d : DiskM) (L : Nat) (C : List (List Int)) (n k : Nat) (h : JC w F J D d L C n) (hk : k < C.length) :
    Calls Tryz.prog 50 #[.pointer (some ⟨J, 0, none⟩), .int .i64 (k : Int)] w fun e w' => ∃ B, e = .returned (.tuple #[.slice (some ⟨B, 0, none⟩) 64 64, .int .i64 0]) ∧ w.heap.size ≤ B ∧ B < w'.heap.size ∧ w'.rangeAt B 0 (secV (C.getD k [])) ∧ Turn (fun _ => False) w w' := by
  have hlen := h.calm.calm.len
  refine (jread_any w F J D d L k h.jh h.room.fits (by omega) h.calm.off).mono ?_
  rintro e w' ⟨B, rfl, hB, hr, hth, _, t⟩
  rw [(h.told k hk).1] at hr
  refine ⟨B, rfl, hB, ?_, hr, t⟩
  obtain ⟨vv, hvv⟩ := Option.isSome_iff_exists.1 (hth 0 (by omega)).1
  exact World.block_lt_of_cell? w' _ hvv
theorem sectors_h (w : World) (F : Nat → Prop) (J D : Nat) (d : DiskM) (L : Nat) (C : List (List Int)) (n : Nat) (h : JC w F J D d L C n) :
    Calls Tryz.prog 48 #[.pointer (some ⟨J, 0, none⟩)] w fun e w' => e = .returned (.int .i64 (C.length : Int)) ∧ w' = w := by
  have hlen := h.calm.calm.len
  refine (jsectors_any w F J D d L h.jh).mono ?_
  rintro e w' ⟨rfl, rfl⟩
  exact ⟨by rw [hlen, show 49 + C.length - 49 = C.length by omega], rfl⟩
end Go.Proofs.YtboofamenpcnhaaGreatDoor
