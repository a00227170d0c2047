/- Own: all, or none: what is read of a disk whose acts were cut. No statement is proved here. -/
import Derived.Test.YtakmkkgpkbpbkaaMod
namespace Go.Proofs.Ytakmkkgpkbpbkaa
open Go.RowKit
set_option linter.unusedVariables false
set_option linter.unusedSimpArgs false

def DAct.isWr : DAct → Bool
  | .wr _ _ => true
  | .fl => false
def toW : DAct → Nat × List Int
  | .wr i xs => (i.toNat, pad64 xs)
  | .fl => (0, [])
theorem ap_writes (l : List DAct) (h : ∀ a ∈ l, a.isWr = true) (p : St) : apAll l p = (p.1, p.2 ++ l.map toW) := by
  induction l generalizing p with
  | nil => simp [apAll]
  | cons x l ih =>
    show apAll l (ap p x) = _
    rw [ih (fun a ha => h a (List.mem_cons_of_mem _ ha))]
    cases x with
    | wr i xs => simp [ap, toW]
    | fl => have := h .fl List.mem_cons_self; simp [DAct.isWr] at this
def layW (l : List (Int × List Int)) : List (Nat × List Int) := l.map fun x => ((49 + x.1).toNat, pad64 x.2)
theorem layA_toW (l : List (Int × List Int)) : (layA l).map toW = layW l := by simp [layA, layW, toW]
theorem layA_wr (l : List (Int × List Int)) : ∀ a ∈ layA l, a.isWr = true := fun a ha => by
  simp only [layA, List.mem_map] at ha
  obtain ⟨x, _, rfl⟩ := ha; rfl
theorem fits_all {k : Nat} {l : List (Int × List Int)} (h : fitsB k l = true) : ∀ x ∈ l, (0 ≤ x.1 ∧ x.1 < (k : Int)) ∧ x.2.length ≤ 64 := fun x hx => by
  have := List.all_eq_true.1 h x hx
  simp at this
  exact ⟨this.1, this.2⟩
theorem layW_ge {k : Nat} {l : List (Int × List Int)} (h : fitsB k l = true) : ∀ x ∈ layW l, 49 ≤ x.1 := fun x hx => by
  simp only [layW, List.mem_map] at hx
  obtain ⟨y, hy, rfl⟩ := hx
  have := (fits_all h y hy).1.1
  show 49 ≤ (49 + y.1).toNat
  omega
/-- What is told of a disk when it is opened. -/
def content (s : List (List Int)) (k : Nat) : List Int := match begunM s with
  | none => s.getD (49 + k) []
  | some l => (lastW (layW l) (49 + k)).getD (s.getD (49 + k) [])
structure SCalm (s : List (List Int)) (L : Nat) (C : List (List Int)) : Prop where
  len : s.length = 49 + C.length
  cont : ∀ k, k < C.length → content s k = C.getD k []
  nums : ∀ k, k < 49 → numK (s.getD k []) 4 ≤ L
  good : ∀ l, begunM s = some l → fitsB C.length l = true
def Settled (s : List (List Int)) (C : List (List Int)) : Prop := ∀ k, k < C.length → s.getD (49 + k) [] = C.getD k []
theorem lay_part {s s' : List (List Int)} {L : Nat} {C : List (List Int)} {l : List (Int × List Int)} (h : SCalm s L C) (hb : begunM s = some l) (hl : s'.length = s.length)
    (h1 : ∀ k, k < 49 → s'.getD k [] = s.getD k []) (h2 : ∀ k, s'.getD (49 + k) [] = s.getD (49 + k) [] ∨ ∃ x ∈ layW l, x.1 = 49 + k) : SCalm s' L C ∧ begunM s' = some l := by
  have hb' : begunM s' = some l := by rw [begunM_congr h1]; exact hb
  refine ⟨⟨by rw [hl, h.len], fun k hk => ?_, fun k hk => by rw [h1 k hk]; exact h.nums k hk, fun l' hl' => h.good l' (by rw [hb]; rw [hb'] at hl'; exact hl')⟩, hb'⟩
  have hc := h.cont k hk
  unfold content at hc ⊢
  rw [hb] at hc
  rw [hb']
  dsimp only at hc ⊢
  cases hw : lastW (layW l) (49 + k) with
  | some y => rw [hw] at hc; exact hc
  | none =>
    rw [hw] at hc
    simp only [Option.getD_none] at hc ⊢
    rcases h2 k with e | ⟨x, hx, he⟩
    · rw [e]; exact hc
    · exact absurd he (lastW_none hw x hx)
theorem lay_keep {s : List (List Int)} {L : Nat} {C : List (List Int)} {l : List (Int × List Int)} (h : SCalm s L C) (hb : begunM s = some l) (W : List (Nat × List Int)) (hW : ∀ x ∈ W, x ∈ layW l) (f : Nat → Bool) :
    SCalm (keepK s W f W.length) L C ∧ begunM (keepK s W f W.length) = some l := by
  have hg := layW_ge (h.good l hb)
  refine lay_part h hb (keepK_len _ _ _ _) (fun k hk => ?_) (fun k => ?_)
  · rcases keep_part s W f k W.length (Nat.le_refl _) with e | ⟨x, hx, he, _⟩
    · exact e
    · have := hg x (hW x hx); omega
  · rcases keep_part s W f (49 + k) W.length (Nat.le_refl _) with e | ⟨x, hx, he, _⟩
    · exact .inl e
    · exact .inr ⟨x, hW x hx, he⟩
theorem lay_done {s : List (List Int)} {L : Nat} {C : List (List Int)} {l : List (Int × List Int)} (h : SCalm s L C) (hb : begunM s = some l) : Settled (keepK s (layW l) (fun _ => true) (layW l).length) C := fun k hk => by
  rw [keep_all_get s (layW l) (49 + k) (by rw [h.len]; omega)]
  have hc := h.cont k hk
  unfold content at hc
  rw [hb] at hc
  exact hc
theorem settled_none {s : List (List Int)} {L : Nat} {C : List (List Int)} (h : SCalm s L C) (hb : begunM s = none) : Settled s C := fun k hk => by
  have hc := h.cont k hk
  unfold content at hc
  rw [hb] at hc
  exact hc

structure Calm (d : DiskM) (L : Nat) (C : List (List Int)) : Prop where
  off : d.off = false
  wet : d.wet = []
  calm : SCalm d.safe L C
theorem crashed_calm {d : DiskM} {L : Nat} {C : List (List Int)} (ms : List Int) (h : SCalm (keepK d.safe d.wet (maskB ms) d.wet.length) L C) : Calm (d.crashed ms) L C := ⟨rfl, rfl, h⟩
theorem secs_begun {d : DiskM} (hw : d.wet = []) : begunM (secsOf d 49) = begunM d.safe := by
  refine begunM_congr (fun k hk => ?_)
  have : (secsOf d 49).getD k [] = d.last k := by simp [List.getD, secsOf, hk]
  rw [this]
  unfold DiskM.last
  rw [hw]; rfl
theorem secs_get {d : DiskM} (hw : d.wet = []) (k : Nat) (hk : k < 49) : (secsOf d 49).getD k [] = d.safe.getD k [] := by
  have : (secsOf d 49).getD k [] = d.last k := by simp [List.getD, secsOf, hk]
  rw [this]
  unfold DiskM.last
  rw [hw]; rfl
theorem lastK_le (ss : List (List Int)) (L : Nat) : ∀ n, (∀ k, k < n → numK (ss.getD k []) 4 ≤ L) → lastK ss n ≤ L
  | 0, _ => Nat.zero_le _
  | n + 1, h => by
    rw [lastK]
    have h1 := lastK_le ss L n (fun k hk => h k (by omega))
    have h2 := h n (by omega)
    omega
theorem le_lastK (ss : List (List Int)) : ∀ n k, k < n → numK (ss.getD k []) 4 ≤ lastK ss n
  | 0, k, hk => by omega
  | n + 1, k, hk => by
    rw [lastK]
    rcases Nat.lt_or_ge k n with h | h
    · have := le_lastK ss n k h; omega
    · obtain rfl : k = n := by omega
      omega
theorem prefix_cases {a b W : List DAct} (h : W ++ [DAct.fl] = a ++ b) : (∃ c, W = a ++ c) ∨ a = W ++ [.fl] := by
  rcases List.append_eq_append_iff.1 h with ⟨c, h1, h2⟩ | ⟨c, h1, h2⟩
  · cases c with
    | nil => left; exact ⟨[], by simpa using h1.symm⟩
    | cons x c =>
      right
      simp at h2
      obtain ⟨rfl, h3, _⟩ := h2
      rw [h1, h3]
  · exact .inl ⟨c, h1⟩
theorem lay_valid {n : Nat} {l : List (Int × List Int)} (h : fitsB (n - 49) l = true) (h49 : 49 < n) : ∀ a ∈ layA l ++ [.fl], a.valid n := fun a ha => by
  rcases List.mem_append.1 ha with ha | ha
  · simp only [layA, List.mem_map] at ha
    obtain ⟨x, hx, rfl⟩ := ha
    obtain ⟨h1, h2⟩ := fits_all h x hx
    exact ⟨by omega, h2⟩
  · simp at ha; subst ha; trivial
/-- Pages are written: to the end, or cut. -/
theorem lay_run {d : DiskM} {L : Nat} {C : List (List Int)} {l : List (Int × List Int)} (h : Calm d L C) (hC : 0 < C.length) (hb : begunM d.safe = some l) :
    ((DiskM.run (layA l ++ [.fl]) d).2 = 0 ∧ Calm (DiskM.run (layA l ++ [.fl]) d).1 L C ∧ Settled (DiskM.run (layA l ++ [.fl]) d).1.safe C ∧ (∀ k, k < 49 → (DiskM.run (layA l ++ [.fl]) d).1.safe.getD k [] = d.safe.getD k []) ∧ (DiskM.run (layA l ++ [.fl]) d).1.armed = d.armed) ∨
    (d.armed = true ∧ (DiskM.run (layA l ++ [.fl]) d).2 = 9 ∧ (DiskM.run (layA l ++ [.fl]) d).1.off = true ∧ ∀ ms, Calm ((DiskM.run (layA l ++ [.fl]) d).1.crashed ms) L C) := by
  have hfit := h.calm.good l hb
  have hlen : d.safe.length = 49 + C.length := h.calm.len
  have hv := lay_valid (n := d.safe.length) (l := l) (by rw [hlen, show 49 + C.length - 49 = C.length by omega]; exact hfit) (by omega)
  have hst : d.st = (d.safe, []) := by unfold DiskM.st; rw [h.wet]
  have hful : apAll (layA l ++ [.fl]) d.st = (keepK d.safe (layW l) (fun _ => true) (layW l).length, []) := by
    rw [apAll_app, hst, ap_writes _ (layA_wr l), layA_toW]; rfl
  have hk := lay_keep h.calm hb (layW l) (fun _ h => h) (fun _ => true)
  have hj : ∀ k, k < 49 → (keepK d.safe (layW l) (fun _ => true) (layW l).length).getD k [] = d.safe.getD k [] := fun k hk' => by
    rcases keep_part d.safe (layW l) (fun _ => true) k _ (Nat.le_refl _) with e | ⟨x, hx, he, _⟩
    · exact e
    · have := layW_ge hfit x hx; omega
  rcases run_cases _ d h.off hv with ⟨r1, r2, r3, r4⟩ | ⟨r0, r1, r2, a, b, hab, r3⟩
  · left
    rw [hful] at r3
    have e1 : (DiskM.run (layA l ++ [.fl]) d).1.safe = _ := congrArg Prod.fst r3
    have e2 : (DiskM.run (layA l ++ [.fl]) d).1.wet = _ := congrArg Prod.snd r3
    dsimp only at e1 e2
    exact ⟨r1, ⟨r2, e2, by rw [e1]; exact hk.1⟩, by rw [e1]; exact lay_done h.calm hb, by rw [e1]; exact hj, r4⟩
  · right
    refine ⟨r0, r1, r2, fun ms => crashed_calm ms ?_⟩
    rcases prefix_cases hab with ⟨c, hc⟩ | hc
    · have ha : ∀ x ∈ a, x.isWr = true := fun x hx => layA_wr l x (by rw [hc]; exact List.mem_append_left _ hx)
      rw [hst, ap_writes a ha] at r3
      have e1 : (DiskM.run (layA l ++ [.fl]) d).1.safe = d.safe := congrArg Prod.fst r3
      have e2 : (DiskM.run (layA l ++ [.fl]) d).1.wet = a.map toW := by have := congrArg Prod.snd r3; simpa [DiskM.st] using this
      rw [e1, e2]
      refine (lay_keep h.calm hb (a.map toW) (fun x hx => ?_) _).1
      rw [← layA_toW, hc, List.map_append]
      exact List.mem_append_left _ hx
    · rw [hc, hful] at r3
      have e1 : (DiskM.run (layA l ++ [.fl]) d).1.safe = _ := congrArg Prod.fst r3
      have e2 : (DiskM.run (layA l ++ [.fl]) d).1.wet = _ := congrArg Prod.snd r3
      dsimp only at e1 e2
      rw [e1, e2]
      exact hk.1
/-- Opened: to the end, or cut. -/
theorem open_run {d : DiskM} {L : Nat} {C : List (List Int)} (h : Calm d L C) (hC : 0 < C.length) :
    ((openM d).2 = 0 ∧ Calm (openM d).1 (lastK (secsOf d 49) 49) C ∧ Settled (openM d).1.safe C ∧ lastK (secsOf d 49) 49 ≤ L ∧ (openM d).1.armed = d.armed) ∨
    (d.armed = true ∧ (openM d).2 = 9 ∧ (openM d).1.off = true ∧ ∀ ms, Calm ((openM d).1.crashed ms) L C) := by
  have hlen : d.safe.length = 49 + C.length := h.calm.len
  have hle : lastK (secsOf d 49) 49 ≤ L := lastK_le _ _ _ (fun k hk => by rw [secs_get h.wet k hk]; exact h.calm.nums k hk)
  have hge : ∀ k, k < 49 → numK (d.safe.getD k []) 4 ≤ lastK (secsOf d 49) 49 := fun k hk => by rw [← secs_get h.wet k hk]; exact le_lastK _ 49 k hk
  have hbe := secs_begun h.wet
  unfold openM
  rw [if_neg (by omega), if_neg (by rw [h.off]; decide), hbe]
  cases hb : begunM d.safe with
  | none =>
    left
    dsimp only
    exact ⟨rfl, ⟨h.off, h.wet, h.calm.len, h.calm.cont, hge, h.calm.good⟩, settled_none h.calm hb, hle, rfl⟩
  | some l =>
    dsimp only
    have hfm : finishM l d = DiskM.run (layA l ++ [.fl]) d := by
      unfold finishM
      rw [if_pos (by rw [hlen, show 49 + C.length - 49 = C.length by omega]; exact h.calm.good l hb)]
    rw [hfm]
    rcases lay_run h hC hb with ⟨r1, r2, r3, r4, r5⟩ | r
    · left
      exact ⟨r1, ⟨r2.off, r2.wet, r2.calm.len, r2.calm.cont, fun k hk => by rw [r4 k hk]; exact hge k hk, r2.calm.good⟩, r3, hle, r5⟩
    · right; exact r
end Go.Proofs.Ytakmkkgpkbpbkaa
