/- Own contracts: pages in memory; whether they fit. No statement is proved here. -/
import Derived.Test.YtakmkkgpkbpbkaaJour
namespace Go.Proofs.Ytakmkkgpkbpbkaa
open Go.RowKit
set_option linter.unusedVariables false
set_option linter.unusedSimpArgs false

/-- A page in memory. -/
def PageAt (w : World) (R : Nat → Prop) (g i : Nat) (x : Int × List Int) : Prop :=
  w.cell? ⟨g, i * 2, none⟩ = some (.int .i64 x.1) ∧ ∃ u, w.cell? ⟨g, i * 2 + 1, none⟩ = some u ∧ Src w u x.2 ∧ (0 < x.2.length → ∀ k, u.ownBlock = some k → R k)
def PagesIn (w : World) (R : Nat → Prop) (v : Value) (l : List (Int × List Int)) : Prop :=
  (v = .slice none 0 0 ∧ l = []) ∨ ∃ g c, v = .slice (some ⟨g, 0, none⟩) l.length c ∧ l.length ≤ c ∧ R g ∧ g < w.heap.size ∧ ∀ i x, l[i]? = some x → PageAt w R g i x
theorem PageAt.turn {w w' : World} {R G : Nat → Prop} {g i : Nat} {x : Int × List Int} (h : PageAt w R g i x) (ht : Turn G w w') (hn : ∀ k, R k → ¬ G k) (hg : R g) : PageAt w' R g i x := by
  obtain ⟨h1, u, h2, h3, h4⟩ := h
  refine ⟨(ht.cell (p := ⟨g, i * 2, none⟩) (World.block_lt_of_cell? w _ h1) (hn g hg)).trans h1, u, (ht.cell (p := ⟨g, i * 2 + 1, none⟩) (World.block_lt_of_cell? w _ h2) (hn g hg)).trans h2, ?_, h4⟩
  exact src_turn_pos h3 ht (fun h0 k hk => hn k (h4 h0 k hk))
theorem PagesIn.turn {w w' : World} {R G : Nat → Prop} {v : Value} {l : List (Int × List Int)} (h : PagesIn w R v l) (ht : Turn G w w') (hn : ∀ k, R k → ¬ G k) : PagesIn w' R v l := by
  rcases h with h | ⟨g, c, rfl, hc, hg, hlt, hp⟩
  · exact .inl h
  · exact .inr ⟨g, c, rfl, hc, hg, Nat.lt_of_lt_of_le hlt ht.size, fun i x hx => (hp i x hx).turn ht hn hg⟩
theorem PagesIn.turn0 {w w' : World} {R : Nat → Prop} {v : Value} {l : List (Int × List Int)} (h : PagesIn w R v l) (ht : Turn (fun _ => False) w w') : PagesIn w' R v l := h.turn ht (fun _ _ => id)
theorem PagesIn.form {w : World} {R : Nat → Prop} {v : Value} {l : List (Int × List Int)} (h : PagesIn w R v l) : ∃ a c, v = .slice a l.length c ∧ l.length ≤ c := by
  rcases h with ⟨rfl, rfl⟩ | ⟨g, c, rfl, hc, _⟩
  · exact ⟨none, 0, rfl, Nat.le_refl _⟩
  · exact ⟨_, _, rfl, hc⟩
def fitsB (k : Nat) (l : List (Int × List Int)) : Bool := l.all fun x => decide (0 ≤ x.1 ∧ x.1 < (k : Int)) && decide (x.2.length ≤ 64)

theorem fits_bad {k : Nat} {l : List (Int × List Int)} {j : Nat} {x : Int × List Int} (hx : l[j]? = some x) (hb : ¬ ((0 ≤ x.1 ∧ x.1 < (k : Int)) ∧ x.2.length ≤ 64)) : fitsB k l = false := by
  rw [Bool.eq_false_iff]
  intro h
  have := List.all_eq_true.1 h x (List.mem_of_getElem? hx)
  simp at this
  exact hb ⟨this.1, this.2⟩
theorem fits_step {k : Nat} {l : List (Int × List Int)} {j : Nat} {x : Int × List Int} (hx : l[j]? = some x) (h : fitsB k (l.take j) = true) (hb : (0 ≤ x.1 ∧ x.1 < (k : Int)) ∧ x.2.length ≤ 64) : fitsB k (l.take (j + 1)) = true := by
  rw [List.take_add_one, hx]
  unfold fitsB at h ⊢
  rw [List.all_append, h]
  simp [hb.1.1, hb.1.2, hb.2]
theorem zero46 (w : World) : (zeroValue 46).run Try.prog w = .ok (.agg #[.int .i64 0, .slice none 0 0]) w := by kernel_rfl
set_option maxHeartbeats 1600000 in
set_option maxRecDepth 100000 in
theorem fits_any (w : World) (F R : Nat → Prop) (J D : Nat) (d : DiskM) (last : Nat) (v : Value) (l : List (Int × List Int)) (h : JH w F J D d last) (hp : PagesIn w R v l) (hl : l.length ≤ 1000000) :
    Calls Try.prog 25 #[.pointer (some ⟨J, 0, none⟩), v] w fun e w' => e = .returned (.bool (fitsB (d.safe.length - 49) l)) ∧ Turn (fun _ => False) w w' := by
  have hz := zero46
  obtain ⟨a, c, rfl, hcap⟩ := hp.form
  obtain ⟨n, hn⟩ : ∃ n, l.length = n := ⟨_, rfl⟩
  have HH := Lib.hid h
  have HP := Lib.hid hp
  have HN := Lib.hid hn
  rw [hn] at hcap hl
  clear h hp
  simp only [hn]
  clear hn
  go_enter Try.func25, Try.ntmps25
  go_wp2_with fail
  go_loopw [9] (fun iv wr => ∃ j : Nat, j ≤ n ∧ iv = .int .i64 (j : Int) ∧ fitsB (d.safe.length - 49) (l.take j) = true ∧ Turn (fun _ => False) w wr) (fun iv _ => (n - intOf iv).toNat)
  case atStart => exact ⟨0, Nat.zero_le _, rfl, rfl, Turn.refl _ _⟩
  case round =>
    obtain ⟨j, hj, rfl, hfit, tr⟩ := hrel
    have HF := Lib.hid hfit
    clear hfit
    by_cases hlt : j < n
    · obtain ⟨x, hx⟩ : ∃ x, l[j]? = some x := ⟨_, List.getElem?_eq_getElem (by rw [HN.out]; exact hlt)⟩
      have hpr := HP.out.turn0 tr
      rcases hpr with ⟨_, h0⟩ | ⟨g, c', hsl, hc', hg, hglt, hpp⟩
      · subst h0; have := HN.out; simp at this; omega
      obtain ⟨p1, u, p2, p3, _⟩ := hpp j x hx
      rw [HN.out] at hsl
      injection hsl with e1 e2 e3
      subst e1
      subst e3
      obtain ⟨ua, uc, rfl, _⟩ := src_any p3
      have HX := Lib.hid hx
      clear hpp p3 hx e2 hc'
      obtain ⟨xa, xs⟩ := x
      dsimp only at p1 p2
      have hd1 : decide ((j : Int) < (n : Int)) = true := by simp; omega
      go_wp2_with fail
      refine (jhas_any _ F J D d last xa (HH.out.turn0 ((tr.alloc _)))).mono ?_
      rintro e w2 ⟨rfl, hw2⟩
      by_cases hin : 0 ≤ xa ∧ xa < ((d.safe.length - 49 : Nat) : Int)
      · rw [decide_eq_true hin]
        by_cases h64 : xs.length ≤ 64
        · have hd2 : decide ((64 : Int) < (xs.length : Int)) = false := by simp; omega
          have hd3 : decide (64 < xs.length) = false := by simp; omega
          subst hw2
          have hr := fits_step (k := d.safe.length - 49) HX.out HF.out ⟨hin, h64⟩
          have HR := Lib.hid hr
          clear hr hin
          go_wp2_with fail
          go_roundw
          case rel => exact ⟨j + 1, by omega, by go_num, HR.out, tr.alloc _⟩
          case measure => simp [intOf]; omega
        · have hd2 : decide ((64 : Int) < (xs.length : Int)) = true := by simp; omega
          have hd3 : decide (64 < xs.length) = true := by simp; omega
          subst hw2
          have hr := fits_bad (k := d.safe.length - 49) HX.out (fun h => h64 h.2)
          have HR := Lib.hid hr
          clear hr hin
          go_wp2_with fail
          go_ret
          exact ⟨by rw [HR.out]; rfl, tr.alloc _⟩
      · rw [decide_eq_false hin]
        subst hw2
        have hr := fits_bad (k := d.safe.length - 49) HX.out (fun h => hin h.1)
        have HR := Lib.hid hr
        clear hr hin
        go_wp2_with fail
        go_ret
        exact ⟨by rw [HR.out]; rfl, tr.alloc _⟩
    · obtain rfl : j = n := by omega
      have hr := HF.out
      rw [← HN.out, List.take_length] at hr
      have HR := Lib.hid hr
      clear hr
      go_wp2_with fail
      go_ret
      exact ⟨by rw [HR.out]; rfl, tr⟩
end Go.Proofs.Ytakmkkgpkbpbkaa
