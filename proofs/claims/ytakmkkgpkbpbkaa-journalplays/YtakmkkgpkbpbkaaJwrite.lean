/- Own contracts: a journal is written to. No statement is proved here. -/
import Derived.Test.YtakmkkgpkbpbkaaJopen
namespace Go.Proofs.Ytakmkkgpkbpbkaa
open Go.RowKit
set_option linter.unusedVariables false
set_option linter.unusedSimpArgs false

/-- What a transaction makes of a disk: the acts. -/
def txA (m : Int) (l : List (Int × List Int)) : List DAct := noteAll m l ++ (layA l ++ [.fl])
def jwriteM (d : DiskM) (last : Nat) (l : List (Int × List Int)) : (DiskM × Int) × Nat :=
  if 24 < l.length then ((d, 5), last) else if fitsB (d.safe.length - 49) l = true then (if l.length = 0 then ((d, 0), last) else (DiskM.run (txA ((last + 1 : Nat) : Int) l) d, last + 1)) else ((d, 1), last)
structure StepJ (w : World) (F : Nat → Prop) (J : Nat) (w' : World) (F' : Nat → Prop) : Prop where
  grown : ∀ k, F' k → F k ∨ w.heap.size ≤ k
  turn : Turn (fun k => F k ∨ k = J) w w'
theorem StepJ.of {w w' : World} {F F' : Nat → Prop} (J : Nat) (h : Step w F w' F') : StepJ w F J w' F' := ⟨h.grown, h.turn.mono (fun _ _ h => .inl h)⟩
theorem StepJ.out {w w' : World} {F F' : Nat → Prop} {J : Nat} (a : StepJ w F J w' F') {k : Nat} (hk : k < w.heap.size) (hn : ¬ F k) : ¬ F' k := fun h => by
  rcases a.grown k h with h | h
  · exact hn h
  · omega
def JWPost (w : World) (F : Nat → Prop) (J D : Nat) (r : (DiskM × Int) × Nat) (e : Ending) (w' : World) : Prop := e = .returned (.int .i64 r.1.2) ∧ ∃ F', JH w' F' J D r.1.1 r.2 ∧ StepJ w F J w' F'

set_option maxHeartbeats 1600000 in
set_option maxRecDepth 100000 in
theorem jwrite_any (w : World) (F R : Nat → Prop) (J D : Nat) (d : DiskM) (last : Nat) (v : Value) (l : List (Int × List Int)) (h : JH w F J D d last) (hp : PagesIn w R v l)
    (hR : ∀ k, R k → k < w.heap.size ∧ ¬ F k ∧ k ≠ J) (hb : ∀ x ∈ l, BytesOk x.2) (hl : l.length ≤ 1000000) (hroom : Room 200 d) (hlast : last < 4294967295) :
    Calls Try.prog 13 #[.pointer (some ⟨J, 0, none⟩), v] w (JWPost w F J D (jwriteM d last l)) := by
  have HH := Lib.hid h
  have HP := Lib.hid hp
  have HRO := Lib.hid hroom
  have HR := Lib.hid hR
  have HB := Lib.hid hb
  obtain ⟨a, c, rfl, _⟩ := hp.form
  clear h hp hroom hR hb
  obtain ⟨n, hn⟩ : ∃ n, l.length = n := ⟨_, rfl⟩
  have HN := Lib.hid hn
  rw [hn] at hl
  simp only [hn]
  clear hn
  by_cases h24 : 24 < n
  · have hd1 : decide ((24 : Int) < (n : Int)) = true := by simp; omega
    have hd2 : decide (24 < n) = true := by simp; omega
    have HM := Lib.hid (show jwriteM d last l = ((d, 5), last) by unfold jwriteM; rw [if_pos (by rw [HN.out]; exact h24)])
    go_enter Try.func13, Try.ntmps13
    go_wp2_with fail
    go_ret
    rw [HM.out]
    exact ⟨rfl, F, HH.out, StepJ.of J (Step.refl _ _)⟩
  have hd1 : decide ((24 : Int) < (n : Int)) = false := by simp; omega
  have hd2 : decide (24 < n) = false := by simp; omega
  go_enter Try.func13, Try.ntmps13
  go_wp2_with fail
  have hpn := HP.out
  rw [HN.out] at hpn
  have HPN := Lib.hid hpn
  clear hpn
  refine (fits_any w F R J D d last _ l HH.out HPN.out (by rw [HN.out]; exact hl)).mono ?_
  rintro e w1 ⟨rfl, t1⟩
  by_cases hfit : fitsB (d.safe.length - 49) l = true
  · have HFIT := Lib.hid hfit
    rw [hfit]
    clear hfit
    by_cases h0 : n = 0
    · subst h0
      have HM := Lib.hid (show jwriteM d last l = ((d, 0), last) by unfold jwriteM; rw [if_neg (by rw [HN.out]; omega), if_pos HFIT.out, if_pos HN.out])
      go_wp2_with fail
      go_ret
      rw [HM.out]
      exact ⟨rfl, F, HH.out.turn0 t1, StepJ.of J (Step.of0 F t1)⟩
    · have hn0 : ((n : Int) == 0) = false := by rw [beq_eq_false_iff_ne]; omega
      have hn1 : (n == 0) = false := by rw [beq_eq_false_iff_ne]; omega
      have HM := Lib.hid (show jwriteM d last l = (DiskM.run (txA ((last + 1 : Nat) : Int) l) d, last + 1) by unfold jwriteM; rw [if_neg (by rw [HN.out]; omega), if_pos HFIT.out, if_neg (by rw [HN.out]; exact h0)])
      go_wp2_with fail
      refine (jnext_any w1 F J D d last (HH.out.turn0 t1) hlast).mono ?_
      rintro e w2 ⟨rfl, hj2, t2⟩
      have HJ2 := Lib.hid hj2
      clear hj2
      have hs1 := t1.size
      have hs2 := t2.size
      have hp2 : PagesIn w2 R (.slice a n c) l := (HPN.out.turn0 t1).turn t2 (fun k hk e => (HR.out k hk).2.2 e)
      have hR2 : ∀ k, R k → k < w2.heap.size ∧ ¬ F k := fun k hk => ⟨by have := (HR.out k hk).1; omega, (HR.out k hk).2.1⟩
      have HP2 := Lib.hid hp2
      have HR2 := Lib.hid hR2
      clear hp2 hR2
      obtain ⟨m, hm⟩ : ∃ m : Nat, last + 1 = m := ⟨_, rfl⟩
      rw [hm] at HJ2 HM ⊢
      have HMM := Lib.hid hm
      clear hm
      go_wp2_with fail
      refine (note_any w2 F R J D d m (m : Int) _ l HJ2.out HP2.out HR2.out HB.out (by rw [HN.out]; omega) (HRO.out.less (by omega)) HFIT.out).mono ?_
      rintro e w3 ⟨rfl, F3, hj3, hs3⟩
      have HJ3 := Lib.hid hj3
      clear hj3
      have hroom3 : Room 100 (DiskM.run (noteAll (m : Int) l) d).1 := Room.run (HRO.out.less (by have := HN.out; simp [noteAll, noteA_len]; omega))
      have hlen3 := DiskM.run_len (noteAll (m : Int) l) d
      obtain ⟨d3, hd3⟩ : ∃ d3, DiskM.run (noteAll (m : Int) l) d = d3 := ⟨_, rfl⟩
      rw [hd3] at HJ3 hroom3 hlen3 ⊢
      have hs23 : StepJ w F J w3 F3 := by
        refine ⟨fun k hk => ?_, ?_⟩
        · rcases hs3.grown k hk with h | h
          · exact .inl h
          · exact .inr (by omega)
        · refine (((t1.mono (fun _ _ h => h.elim)).trans t2 (fun _ _ h => .inr h))).trans hs3.turn (fun _ _ h => .inl h)
      have HD3 := Lib.hid hd3
      have HRM3 := Lib.hid hroom3
      have HL3 := Lib.hid hlen3
      obtain ⟨dd, rr⟩ := d3
      dsimp only at HJ3 HRM3 HL3 ⊢
      clear hd3 hroom3 hlen3
      by_cases hr0 : rr = 0
      · subst hr0
        go_wp2_with fail
        have hp3 : PagesIn w3 R (.slice a n c) l := HP2.out.turn hs3.turn (fun k hk => (HR2.out k hk).2)
        refine (lay_any w3 F3 R J D dd m _ l HJ3.out hp3 (fun k hk => ⟨Nat.lt_of_lt_of_le (HR2.out k hk).1 hs3.turn.size, hs3.out (HR2.out k hk).1 (HR2.out k hk).2⟩) HB.out (by rw [HN.out]; omega) HRM3.out (by rw [HL3.out]; exact HFIT.out)).mono ?_
        rintro e w4 ⟨rfl, F4, hj4, hs4⟩
        have HJ4 := Lib.hid hj4
        clear hj4
        have HM2 := Lib.hid (show DiskM.run (txA (m : Int) l) d = DiskM.run (layA l ++ [.fl]) dd by unfold txA; rw [DiskM.run_ok _ (by rw [HD3.out]), HD3.out])
        go_wp2_with fail
        go_ret
        rw [HM.out, HM2.out]
        refine ⟨rfl, F4, HJ4.out, fun k hk => ?_, hs23.turn.trans hs4.turn (fun k hk h => ?_)⟩
        · have h3 := hs3.turn.size
          rcases hs4.grown k hk with h | h
          · exact hs23.grown k h
          · exact .inr (by omega)
        · rcases hs23.grown k h with h | h
          · exact .inl h
          · omega
      · have hr1 : (rr == 0) = false := by rw [beq_eq_false_iff_ne]; exact hr0
        have HM2 := Lib.hid (show DiskM.run (txA (m : Int) l) d = (dd, rr) by unfold txA; rw [DiskM.run_bad _ (by rw [HD3.out]; exact hr0), HD3.out])
        go_wp2_with fail
        go_ret
        rw [HM.out, HM2.out]
        exact ⟨rfl, F3, HJ3.out, hs23⟩
  · have HM := Lib.hid (show jwriteM d last l = ((d, 1), last) by unfold jwriteM; rw [if_neg (by rw [HN.out]; omega), if_neg hfit])
    rw [Bool.eq_false_iff.2 hfit]
    clear hfit
    go_wp2_with fail
    go_ret
    rw [HM.out]
    exact ⟨rfl, F, HH.out.turn0 t1, StepJ.of J (Step.of0 F t1)⟩
set_option maxHeartbeats 800000 in
set_option maxRecDepth 100000 in
theorem nil_open (w : World) : Calls Try.prog 10 #[.pointer none] w fun e w' => e = .returned (.tuple #[.pointer none, .int .i64 1]) ∧ w' = w := by
  go_enter Try.func10, Try.ntmps10
  go_wp2_with fail
  refine (nil_sectors w).mono ?_
  rintro e w1 ⟨rfl, rfl⟩
  go_wp2_with fail
  go_ret2
  exact ⟨rfl, rfl⟩
end Go.Proofs.Ytakmkkgpkbpbkaa
