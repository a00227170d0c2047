/- Own contracts: the journal's own sectors are read. No statement is proved here. -/
import Derived.Test.YtakmkkgpkbpbkaaNote
namespace Go.Proofs.Ytakmkkgpkbpbkaa
open Go.RowKit
set_option linter.unusedVariables false
set_option linter.unusedSimpArgs false

theorem Try.info31 : (Try.prog.info? 31).map (fun i => (i.zero, i.size, i.bytes)) = some (some (.slice none 0 0), 1, 24) := by kernel_rfl
/-- Sectors that were read. -/
def SecsAt (w : World) (g : Nat) (ss : List (List Int)) : Prop := ∀ i s, ss[i]? = some s → ∃ B, w.cell? ⟨g, i, none⟩ = some (.slice (some ⟨B, 0, none⟩) 64 64) ∧ w.rangeAt B 0 (secV s)
theorem SecsAt.turn {w w' : World} {g : Nat} {ss : List (List Int)} (h : SecsAt w g ss) (hs : ∀ s ∈ ss, s.length = 64) (ht : Turn (fun _ => False) w w') : SecsAt w' g ss := fun i s hi => by
  obtain ⟨B, h1, h2⟩ := h i s hi
  exact ⟨B, (ht.cell (p := ⟨g, i, none⟩) (World.block_lt_of_cell? w _ h1) id).trans h1, rangeAt_turn h2 ht id⟩
def secsOf (d : DiskM) (n : Nat) : List (List Int) := (List.range n).map d.last
theorem secsOf_at (d : DiskM) (n i : Nat) (hi : i < n) : (secsOf d n)[i]? = some (d.last i) := by simp [secsOf, hi]
def bv (B : Nat) : Value := .slice (some ⟨B, 0, none⟩) 64 64
def LoadPost (w : World) (F : Nat → Prop) (D : Nat) (d : DiskM) (e : Ending) (w' : World) : Prop :=
  ∃ g c, e = .returned (.tuple #[.slice (some ⟨g, 0, none⟩) 49 c, .int .i64 0]) ∧ 49 ≤ c ∧ SecsAt w' g (secsOf d 49) ∧ DH w' F D d ∧ Turn (fun _ => False) w w'
set_option maxHeartbeats 4000000 in
set_option maxRecDepth 100000 in
theorem load_any (w : World) (F : Nat → Prop) (D : Nat) (d : DiskM) (h : DH w F D d) (hf : Fits d) (hbig : 49 < d.safe.length) (hoff : d.off = false) :
    Calls Try.prog 21 #[.pointer (some ⟨D, 0, none⟩)] w (LoadPost w F D d) := by
  obtain ⟨i0, hi, hz0, hz1, hz2⟩ := info_parts Try.info31
  have HH := Lib.hid h
  have HF := Lib.hid hf
  clear h hf
  go_enter Try.func21, Try.ntmps21
  go_wp2_with fail
  go_loopw [4, 8] (fun lv iv wr => ∃ j : Nat, j ≤ 49 ∧ iv = .int .i64 (j : Int) ∧ ∃ bs : List Nat, bs.length = j ∧ wr.ownsRow w.heap.size 31 1 lv j (bs.map bv) ∧ (∀ i B, bs[i]? = some B → wr.rangeAt B 0 (secV (d.last i)) ∧ B < wr.heap.size ∧ lv.ownBlock ≠ some B) ∧ Turn (fun _ => False) w wr) (fun _ iv _ => (49 - intOf iv).toNat)
  case atStart => exact ⟨0, Nat.zero_le _, rfl, [], rfl, World.ownsRow_nil _ _ _ _, fun i B h => by simp at h, Turn.refl _ _⟩
  case round =>
    obtain ⟨j, hj, rfl, bs, hbl, ho, hbs, tr⟩ := hrel
    have HO := Lib.hid ho
    have HBS := Lib.hid hbs
    have HBL := Lib.hid hbl
    clear ho hbs hbl
    by_cases hlt : j < 49
    · go_wp2_with fail
      refine (read_dh wr F D d j (HH.out.turn0 tr) HF.out (by omega) hoff).mono ?_
      rintro e w2 ⟨B, rfl, hB, hr, hth, hd2, t2⟩
      have hBl : B < w2.heap.size := by
        obtain ⟨vv, hvv⟩ := Option.isSome_iff_exists.1 (hth 0 (by omega)).1
        exact World.block_lt_of_cell? w2 _ hvv
      have ho2 := t2.owns HO.out (fun _ _ => id)
      have HO2 := Lib.hid (((Turn.refl (fun _ => False) w2).alloc (.cells #[bv B] 31)).owns ho2 (fun _ _ => id))
      have HRB := Lib.hid hr
      have hnew := heap_alloc_new w2 (.cells #[bv B] 31)
      have hnews : ∀ (k : Nat) u, [bv B][k]? = some u → (w2.alloc (.cells #[bv B] 31)).cell? ((⟨w2.heap.size, 0, none⟩ : Addr).add k) = some u := by
        intro k u hk
        rw [Addr.add_mid, cell_of_row _ _ _ _ 31 (0, 0) hnew]
        match k, hk with
        | 0, hk => simpa using hk
      have HNW := Lib.hid hnews
      clear ho2 hr hth hnew hnews
      go_wp2_with (at_builtin; refine wpList_append_where _ rfl (.tmp 20) (.tmp 22) 30 rfl w.heap.size 31 i0 (.slice none 0 0) 1 24 Try.underlying30 hi hz0 hz1 hz2 rfl (by decide) _ j (bs.map bv) rfl HO2.out ⟨w2.heap.size, 0, none⟩ 1 1 [bv B] rfl rfl HNW.out (fun u hu => by simp at hu; subst hu; rfl) ?d3 ?d4 ?d5 ?_)
      case d3 => unfold maxLen; omega
      case d4 => omega
      case d5 => have h1 := tr.size; have h2 := t2.size; simp; omega
      intro v3 w3 ho3 hg3 hfr _
      have t3 : Turn (fun q => u4.ownBlock = some q) w2 w3 := ((Turn.refl (fun q => u4.ownBlock = some q) w2).alloc (.cells #[bv B] 31)).grown hg3 (fun k h _ => h)
      have T3 : Turn (fun _ => False) w w3 := (tr.trans t2 (fun _ _ => id)).trans t3 (fun q hq h => by have := (HO.out.lt q h).1; omega)
      have HO3 := Lib.hid ho3
      clear ho3
      go_wp2_with fail
      go_roundw
      case rel =>
        refine ⟨j + 1, by omega, by go_num, bs ++ [B], by simp [HBL.out], by simpa using HO3.out, ?_, T3⟩
        intro i B' hi'
        have hs2 := t2.size
        have hs3 := t3.size
        have hfr' : ∀ q, q < w2.heap.size → u4.ownBlock ≠ some q → v3.ownBlock ≠ some q := fun q hq hn hv => hn (hfr.old hv (by simp; omega))
        rcases Nat.lt_or_ge i j with hij | hij
        · rw [List.getElem?_append_left (by have := HBL.out; omega)] at hi'
          obtain ⟨a1, a2, a3⟩ := HBS.out i B' hi'
          exact ⟨rangeAt_turn (rangeAt_turn a1 t2 id) t3 a3, by omega, hfr' B' (by omega) a3⟩
        · rw [List.getElem?_append_right (by have := HBL.out; omega)] at hi'
          have hij' : i = j := by
            have := (List.getElem?_eq_some_iff.1 hi').1
            simp at this
            have := HBL.out; omega
          subst hij'
          rw [HBL.out] at hi'
          simp at hi'
          subst hi'
          have hnb : u4.ownBlock ≠ some B := fun hh => by have := (HO.out.lt B hh).2; omega
          exact ⟨rangeAt_turn HRB.out t3 hnb, by omega, hfr' B hBl hnb⟩
      case measure => simp [intOf]; omega
    · obtain rfl : j = 49 := by omega
      have hform : ∃ g c, u4 = .slice (some ⟨g, 0, none⟩) 49 c ∧ 49 ≤ c := by
        rcases HO.out.2 with ⟨_, h0⟩ | ⟨g, cap, cur, h1, _, _, h2, _⟩
        · omega
        · exact ⟨g, cap, h1, h2⟩
      obtain ⟨g, c, rfl, hc⟩ := hform
      go_wp2_with fail
      go_ret2
      refine ⟨g, c, rfl, hc, fun i s hs => ?_, HH.out.turn0 tr, tr⟩
      have hi49 : i < 49 := by have := (List.getElem?_eq_some_iff.1 hs).1; simpa [secsOf] using this
      rw [secsOf_at d 49 i hi49] at hs
      obtain rfl : d.last i = s := by simpa using hs
      obtain ⟨B, hB⟩ : ∃ B, bs[i]? = some B := ⟨_, List.getElem?_eq_getElem (by rw [HBL.out]; exact hi49)⟩
      refine ⟨B, ?_, (HBS.out i B hB).1⟩
      rw [HO.out.cellAt i (by omega)]
      simp [hB, bv]
set_option maxHeartbeats 4000000 in
set_option maxRecDepth 100000 in
theorem load_off (w : World) (F : Nat → Prop) (D : Nat) (d : DiskM) (h : DH w F D d) (hbig : 49 < d.safe.length) (hoff : d.off = true) :
    Calls Try.prog 21 #[.pointer (some ⟨D, 0, none⟩)] w fun e w' => e = .returned (.tuple #[.slice none 0 0, .int .i64 9]) ∧ w' = w := by
  have HH := Lib.hid h
  clear h
  go_enter Try.func21, Try.ntmps21
  go_wp2_with fail
  go_loop [8] (fun iv => iv = .int .i64 0) (fun _ => 0)
  case atStart => rfl
  case round =>
    subst hrel
    go_wp2_with fail
    refine (read_dh_off w F D d 0 HH.out (by omega) hoff).mono ?_
    rintro e w2 ⟨rfl, rfl⟩
    go_wp2_with fail
    go_ret2
    exact ⟨rfl, rfl⟩
end Go.Proofs.Ytakmkkgpkbpbkaa
