/- Own texts, packed: Ka, Kb, Kc. -/
import Derived.Test.YtboofamenpcnhaaGreatDoorV42
import Derived.Lib.Bytealg
import Derived.Test.YtboofamenpcnhaaGreatDoorV00
namespace Go.Proofs.YtboofamenpcnhaaGreatDoor
set_option maxRecDepth 100000
open Go.RowKit Go.Shelf
set_option linter.unusedVariables false
set_option linter.unusedSimpArgs false
/-- A key as a value of its own. -/
structure Ky where
  key : List Int
def Ky.vals (o : Ky) : List Value := o.key.map (Value.int .u8)
structure Ky.Ok (o : Ky) : Prop where
  len : o.key.length = 32
  ok : BytesOk o.key
def ky0 : Ky := ⟨List.replicate 32 0⟩
theorem Ky.Ok.vlen {o : Ky} (h : o.Ok) : o.vals.length = 32 := by simp [Ky.vals, h.len]
theorem Ky.vals_one (o : Ky) : ∀ v ∈ o.vals, v.oneCell' = true := fun v hv => by
  obtain ⟨x, _, rfl⟩ := List.mem_map.1 hv; rfl
structure KRow (w : World) (g o : Nat) (sl : List Ky) : Prop where
  at_ : ∀ k, k < sl.length → w.rangeAt g (o + k * 32) (sl.getD k ky0).vals
  ok : ∀ x ∈ sl, x.Ok
  lt : g < w.heap.size
theorem KRow.get {w : World} {g o : Nat} {sl : List Ky} (h : KRow w g o sl) (k : Nat) (hk : k < sl.length) : (sl.getD k ky0).Ok := by
  have : sl.getD k ky0 = sl[k] := by simp [List.getD, hk]
  rw [this]
  exact h.ok _ (List.getElem_mem hk)
theorem info32w {o : Ky} (h : o.Ok) : (Tryz.prog.info? 32).map (·.size) = some o.vals.toArray.size := by rw [info32]; simp [h.vlen]
def bU (xs : List Int) : List UInt8 := xs.map fun n => n.toNat.toUInt8
def kysV (sl : List Ky) : List Value := sl.flatMap Ky.vals
theorem kysV_len {sl : List Ky} (h : ∀ o ∈ sl, o.Ok) : (kysV sl).length = 32 * sl.length := by
  induction sl with
  | nil => rfl
  | cons o sl ih =>
    have := ih (fun x hx => h x (List.mem_cons_of_mem _ hx))
    have h1 := (h o List.mem_cons_self).vlen
    simp only [kysV, List.flatMap_cons, List.length_append, List.length_cons] at this ⊢
    omega
theorem kysV_part {sl : List Ky} (h : ∀ o ∈ sl, o.Ok) : ∀ k, k < sl.length → ((kysV sl).drop (k * 32)).take 32 = (sl.getD k ky0).vals := by
  induction sl with
  | nil => intro k hk; simp at hk
  | cons o sl ih =>
    intro k hk
    have h1 := (h o List.mem_cons_self).vlen
    cases k with
    | zero =>
      simp only [kysV, List.flatMap_cons, Nat.zero_mul, List.drop_zero, List.getD_cons_zero]
      rw [List.take_append_of_le_length (by omega), List.take_of_length_le (by omega)]
    | succ k =>
      have := ih (fun x hx => h x (List.mem_cons_of_mem _ hx)) k (by simpa using hk)
      simp only [kysV, List.flatMap_cons, List.getD_cons_succ] at this ⊢
      rw [← this, List.drop_append, h1, List.drop_of_length_le (by omega), List.nil_append]
      congr 2
      omega
theorem kysV_set {sl : List Ky} (h : ∀ o ∈ sl, o.Ok) (o : Ky) (ho : o.Ok) : ∀ k, k < sl.length → kysV (sl.set k o) = (kysV sl).take (k * 32) ++ o.vals ++ (kysV sl).drop (k * 32 + 32) := by
  induction sl with
  | nil => intro k hk; simp at hk
  | cons x sl ih =>
    intro k hk
    have h1 := (h x List.mem_cons_self).vlen
    cases k with
    | zero =>
      simp only [List.set_cons_zero, kysV, List.flatMap_cons, Nat.zero_mul, List.take_zero, List.nil_append, Nat.zero_add]
      rw [List.drop_append, List.drop_of_length_le (by omega), h1]
      simp
    | succ k =>
      have := ih (fun x hx => h x (List.mem_cons_of_mem _ hx)) k (by simpa using hk)
      simp only [List.set_cons_succ, kysV, List.flatMap_cons] at this ⊢
      rw [this, List.take_append, List.drop_append, h1, List.take_of_length_le (show x.vals.length ≤ (k + 1) * 32 by omega), List.drop_of_length_le (show x.vals.length ≤ (k + 1) * 32 + 32 by omega)]
      rw [show (k + 1) * 32 - 32 = k * 32 by omega, show (k + 1) * 32 + 32 - 32 = k * 32 + 32 by omega]
      simp
/-- A block of refs of one's own. -/
structure KBk (w : World) (g : Nat) (rs : List Ky) (ex : List Value) : Prop where
  at_ : w.heap[g]? = some (.cells (kysV rs ++ ex).toArray 32 (0, 0))
  ok : ∀ x ∈ rs, x.Ok
section
variable {w w' : World} {g : Nat} {rs : List Ky} {ex : List Value} {G : Nat → Prop}
theorem KBk.lt (h : KBk w g rs ex) : g < w.heap.size := (Array.getElem?_eq_some_iff.1 h.at_).1
theorem KBk.turn (h : KBk w g rs ex) (t : Turn G w w') (hn : ¬ G g) : KBk w' g rs ex := ⟨(t.block g h.lt hn).trans h.at_, h.ok⟩
theorem KBk.vlen (h : KBk w g rs ex) : (kysV rs).length = 32 * rs.length := kysV_len h.ok
theorem KBk.row (h : KBk w g rs ex) : KRow w g 0 rs := by
  refine ⟨fun k hk j v hj => ?_, h.ok, h.lt⟩
  have hv := h.vlen
  rw [cell_of_row w g _ _ 32 (0, 0) h.at_]
  rw [← kysV_part h.ok k hk, List.getElem?_take] at hj
  split at hj
  · rename_i h34
    rw [List.getElem?_drop] at hj
    have hl := (List.getElem?_eq_some_iff.1 hj).1
    simp only [List.getElem?_toArray]
    rw [List.getElem?_append_left (by omega), Nat.zero_add]
    exact hj
  · cases hj
theorem KBk.there (h : KBk w g rs ex) (k : Nat) (hk : k < rs.length) : w.there g (k * 32) 32 := fun j hj => by
  have hv := h.vlen
  refine ⟨?_, frozen_of_row w g _ _ 32 h.at_⟩
  rw [cell_of_row w g _ _ 32 (0, 0) h.at_]
  have : k * 32 + j < (kysV rs ++ ex).length := by rw [List.length_append]; omega
  rw [List.getElem?_toArray, List.getElem?_eq_getElem this]
  rfl
theorem KBk.set (h : KBk w g rs ex) (k : Nat) (hk : k < rs.length) (o : Ky) (ho : o.Ok) : KBk (w.setCells g (k * 32) o.vals) g (rs.set k o) ex := by
  have hv := h.vlen
  have := heap_setCells g 32 o.vals (k * 32) w (kysV rs ++ ex) h.at_ (by rw [List.length_append, ho.vlen]; omega)
  refine ⟨?_, fun x hx => ?_⟩
  · rw [this]
    congr 2
    apply congrArg List.toArray
    rw [kysV_set h.ok o ho k hk, ho.vlen, List.take_append_of_le_length (by omega), List.drop_append_of_le_length (by omega)]
    simp
  · rcases List.mem_or_eq_of_mem_set hx with h1 | h1
    · exact h.ok x h1
    · subst h1; exact ho
theorem KBk.get (h : KBk w g rs ex) (k : Nat) (hk : k < rs.length) : (rs.getD k ky0).Ok := h.row.get k hk
end
section
open Lib
theorem cb_eq : ∀ a b : List UInt8, compareBytes a b = 0 → a = b
  | [], [], _ => rfl
  | [], b :: bs, h => by simp [compareBytes] at h
  | a :: la, [], h => by simp [compareBytes] at h
  | a :: la, b :: bs, h => by
    unfold compareBytes at h
    split at h
    · simp at h
    · split at h
      · simp at h
      · rename_i h1 h2
        have he : a = b := UInt8.toNat_inj.1 (by simp only [UInt8.lt_iff_toNat_lt] at h1 h2; omega)
        rw [he, cb_eq la bs h]
theorem cb_flip : ∀ a b : List UInt8, compareBytes b a = - compareBytes a b
  | [], [] => rfl
  | [], b :: bs => rfl
  | a :: la, [] => rfl
  | a :: la, b :: bs => by
    unfold compareBytes
    by_cases h1 : a < b
    · rw [if_pos h1, if_neg (by simp only [UInt8.lt_iff_toNat_lt] at h1 ⊢; omega), if_pos h1]
      rfl
    · rw [if_neg h1]
      by_cases h2 : b < a
      · simp [h1, h2]
      · rw [if_neg h2, if_neg h2, if_neg h1]
        exact cb_flip la bs
theorem cb_trans : ∀ a b c : List UInt8, compareBytes a b < 0 → compareBytes b c < 0 → compareBytes a c < 0
  | [], b, [], h1, h2 => by
    cases b with
    | nil => simp [compareBytes] at h1
    | cons => simp [compareBytes] at h2
  | [], _, c :: cs, _, _ => by simp [compareBytes]
  | a :: la, [], c, h1, _ => by simp [compareBytes] at h1
  | a :: la, b :: bs, [], _, h2 => by simp [compareBytes] at h2
  | a :: la, b :: bs, c :: cs, h1, h2 => by
    unfold compareBytes at h1 h2 ⊢
    simp only [UInt8.lt_iff_toNat_lt] at h1 h2 ⊢
    by_cases x1 : a.toNat < b.toNat
    · by_cases x2 : b.toNat < c.toNat
      · rw [if_pos (by omega)]; omega
      · rw [if_neg x2] at h2
        by_cases x3 : c.toNat < b.toNat
        · rw [if_pos x3] at h2; omega
        · rw [if_pos (by omega)]; omega
    · rw [if_neg x1] at h1
      by_cases x4 : b.toNat < a.toNat
      · rw [if_pos x4] at h1; omega
      · rw [if_neg x4] at h1
        by_cases x2 : b.toNat < c.toNat
        · rw [if_pos (by omega)]; omega
        · rw [if_neg x2] at h2
          by_cases x3 : c.toNat < b.toNat
          · rw [if_pos x3] at h2; omega
          · rw [if_neg x3] at h2
            rw [if_neg (by omega), if_neg (by omega)]
            exact cb_trans la bs cs h1 h2
end
def cmpK (x y : Ky) : Int := Lib.compareBytes (bU x.key) (bU y.key)
theorem cmpK_flip (x y : Ky) : cmpK y x = - cmpK x y := cb_flip _ _
theorem cmpK_trans {x y z : Ky} (h1 : cmpK x y < 0) (h2 : cmpK y z < 0) : cmpK x z < 0 := cb_trans _ _ _ h1 h2
theorem cmpK_eq {x y : Ky} (h : cmpK x y = 0) (z : Ky) : cmpK x z = cmpK y z := by
  have := cb_eq _ _ h
  unfold cmpK
  rw [this]
/-- Not behind it. -/
theorem leK_trans {x y z : Ky} (h1 : cmpK x y ≤ 0) (h2 : cmpK y z ≤ 0) : cmpK x z ≤ 0 := by
  by_cases a : cmpK x y = 0
  · rw [cmpK_eq a]; exact h2
  · by_cases b : cmpK y z = 0
    · have e := cmpK_eq b x
      have f1 := cmpK_flip y x
      have f2 := cmpK_flip z x
      omega
    · have := cmpK_trans (show cmpK x y < 0 by omega) (show cmpK y z < 0 by omega)
      omega
/-- The first i are in order. -/
def Srt (rs : List Ky) (i : Nat) : Prop := ∀ p q, p < q → q < i → cmpK (rs.getD p ky0) (rs.getD q ky0) ≤ 0
/-- As the sort leaves them. -/
structure InsI (rs0 rs : List Ky) (n i : Nat) : Prop where
  len : rs.length = n
  perm : (rs.take n).Perm (rs0.take n)
  srt : Srt rs i
/-- While one goes down. -/
structure InsJ (rs0 rs : List Ky) (n i j : Nat) : Prop where
  len : rs.length = n
  perm : (rs.take n).Perm (rs0.take n)
  low : ∀ p q, p < q → q ≤ i → p ≠ j → q ≠ j → cmpK (rs.getD p ky0) (rs.getD q ky0) ≤ 0
  top : ∀ q, j < q → q ≤ i → cmpK (rs.getD j ky0) (rs.getD q ky0) ≤ 0
theorem InsI.start {rs0 rs : List Ky} {n i : Nat} (h : InsI rs0 rs n i) : InsJ rs0 rs n i i := ⟨h.len, h.perm, fun p q hpq hq hp hq' => h.srt p q hpq (by omega), fun q h1 h2 => by omega⟩
theorem InsJ.done {rs0 rs : List Ky} {n i j : Nat} (h : InsJ rs0 rs n i j) (hj : j ≤ i) (hd : j = 0 ∨ cmpK (rs.getD (j - 1) ky0) (rs.getD j ky0) ≤ 0) : InsI rs0 rs n (i + 1) := by
  refine ⟨h.len, h.perm, fun p q hpq hq => ?_⟩
  by_cases e1 : q = j
  · subst e1
    rcases hd with h0 | h0
    · omega
    · by_cases e2 : p = q - 1
      · subst e2; exact h0
      · exact leK_trans (h.low p (q - 1) (by omega) (by omega) (by omega) (by omega)) h0
  · by_cases e2 : p = j
    · subst e2; exact h.top q hpq (by omega)
    · exact h.low p q hpq (by omega) e2 e1
theorem getD_set_eq {rs : List Ky} (k : Nat) (x : Ky) (hk : k < rs.length) : (rs.set k x).getD k ky0 = x := by simp [List.getD, hk]
theorem getD_set_ne {rs : List Ky} (k p : Nat) (x : Ky) (h : p ≠ k) : (rs.set k x).getD p ky0 = rs.getD p ky0 := by simp [List.getD, List.getElem?_set_ne (Ne.symm h)]
theorem swap_perm (rs : List Ky) (n j : Nat) (hj : 0 < j) (hjn : j < n) (hn : n ≤ rs.length) : (((rs.set j (rs.getD (j - 1) ky0)).set (j - 1) (rs.getD j ky0)).take n).Perm (rs.take n) := by
  obtain ⟨k, rfl⟩ : ∃ k, j = k + 1 := ⟨j - 1, by omega⟩
  simp only [Nat.add_sub_cancel]
  have hk1 : k + 1 < rs.length := by omega
  have hk : k < rs.length := by omega
  have e : rs = rs.take k ++ rs[k] :: rs[k + 1] :: rs.drop (k + 2) := by
    rw [← List.drop_eq_getElem_cons hk1, ← List.drop_eq_getElem_cons hk, List.take_append_drop]
  have g1 : rs.getD k ky0 = rs[k] := by simp [List.getD, hk]
  have g2 : rs.getD (k + 1) ky0 = rs[k + 1] := by simp [List.getD, hk1]
  have hlk : (rs.take k).length = k := by simp; omega
  have e2 : (rs.set (k + 1) rs[k]).set k rs[k + 1] = rs.take k ++ rs[k + 1] :: rs[k] :: rs.drop (k + 2) := by
    apply List.ext_getElem?
    intro q
    rw [List.getElem?_set, List.getElem?_set]
    by_cases q1 : k = q
    · subst q1
      rw [if_pos rfl, if_pos (by simpa using hk), List.getElem?_append_right (by omega), hlk, Nat.sub_self]
      rfl
    · rw [if_neg q1]
      by_cases q2 : k + 1 = q
      · subst q2
        rw [if_pos rfl, if_pos hk1, List.getElem?_append_right (by omega), hlk, show k + 1 - k = 1 by omega]
        rfl
      · rw [if_neg q2]
        by_cases q3 : q < k
        · rw [List.getElem?_append_left (by omega), List.getElem?_take, if_pos q3]
        · rw [List.getElem?_append_right (by omega), hlk]
          obtain ⟨d, rfl⟩ : ∃ d, q = k + 2 + d := ⟨q - k - 2, by omega⟩
          rw [show k + 2 + d - k = d + 1 + 1 by omega, List.getElem?_cons_succ, List.getElem?_cons_succ, List.getElem?_drop]
  rw [g1, g2, e2]
  have e3 : rs.take n = rs.take k ++ rs[k] :: rs[k + 1] :: (rs.drop (k + 2)).take (n - (k + 2)) := by
    conv => lhs; rw [e]
    rw [List.take_append, hlk, List.take_of_length_le (by omega), show n - k = (n - (k + 2)) + 1 + 1 by omega, List.take_succ_cons, List.take_succ_cons]
  have e4 : (rs.take k ++ rs[k + 1] :: rs[k] :: rs.drop (k + 2)).take n = rs.take k ++ rs[k + 1] :: rs[k] :: (rs.drop (k + 2)).take (n - (k + 2)) := by
    rw [List.take_append, hlk, List.take_of_length_le (by omega), show n - k = (n - (k + 2)) + 1 + 1 by omega, List.take_succ_cons, List.take_succ_cons]
  rw [e3, e4]
  exact List.Perm.append_left _ (List.Perm.swap _ _ _)
theorem InsJ.down {rs0 rs : List Ky} {n i j : Nat} (h : InsJ rs0 rs n i j) (hj0 : 0 < j) (hj : j ≤ i) (hi : i < n) (hn : n ≤ n) (hlt : cmpK (rs.getD j ky0) (rs.getD (j - 1) ky0) < 0) : InsJ rs0 ((rs.set j (rs.getD (j - 1) ky0)).set (j - 1) (rs.getD j ky0)) n i (j - 1) := by
  have hl := h.len
  have a1 : ((rs.set j (rs.getD (j - 1) ky0)).set (j - 1) (rs.getD j ky0)).getD (j - 1) ky0 = rs.getD j ky0 := getD_set_eq _ _ (by simp; omega)
  have a2 : ((rs.set j (rs.getD (j - 1) ky0)).set (j - 1) (rs.getD j ky0)).getD j ky0 = rs.getD (j - 1) ky0 := by rw [getD_set_ne _ _ _ (by omega), getD_set_eq _ _ (by omega)]
  have a3 : ∀ p, p ≠ j → p ≠ j - 1 → ((rs.set j (rs.getD (j - 1) ky0)).set (j - 1) (rs.getD j ky0)).getD p ky0 = rs.getD p ky0 := fun p h1 h2 => by rw [getD_set_ne _ _ _ h2, getD_set_ne _ _ _ h1]
  refine ⟨by simpa using hl, (swap_perm rs n j hj0 (by omega) (by omega)).trans h.perm, fun p q hpq hq hp hq' => ?_, fun q h1 h2 => ?_⟩
  · by_cases e1 : q = j
    · subst e1
      rw [a2, a3 p (by omega) hp]
      exact h.low p (q - 1) (by omega) (by omega) (by omega) (by omega)
    · by_cases e2 : p = j
      · subst e2
        rw [a2, a3 q e1 hq']
        exact h.low (p - 1) q (by omega) hq (by omega) e1
      · rw [a3 p e2 hp, a3 q e1 hq']
        exact h.low p q hpq hq e2 e1
  · rw [a1]
    by_cases e1 : q = j
    · subst e1; rw [a2]; omega
    · rw [a3 q e1 (by omega)]
      exact h.top q (by omega) h2
section
open Lib
variable {P : Program}
theorem loadBytes_run (w : World) (g : Nat) : ∀ (xs : List Int) (o : Nat) (acc : ByteArray), (∀ i, i < xs.length → w.cell? ⟨g, o + i, none⟩ = some (.int .u8 (xs.getD i 0))) →
    (Extern.Bytes.loadBytes ⟨g, o, none⟩ xs.length acc).run P w = .ok ⟨acc.data ++ (bU xs).toArray⟩ w
  | [], o, acc, _ => by simp [Extern.Bytes.loadBytes, bU]
  | x :: xs, o, acc, h => by
    have h0 := h 0 (by simp)
    have ih := loadBytes_run w g xs (o + 1) (acc.push x.toNat.toUInt8) (fun i hi => by
      have := h (i + 1) (by simpa using hi)
      rw [show o + 1 + i = o + (i + 1) by omega]
      simpa using this)
    have ha : (⟨g, o, none⟩ : Addr).add 1 = ⟨g, o + 1, none⟩ := by unfold Addr.add; split <;> simp_all
    simp only [List.length_cons, Extern.Bytes.loadBytes, Sem.run_bind]
    have hl : (load ⟨g, o, none⟩).run P w = .ok (.int .u8 x) w := by simp [show w.cell? ⟨g, o, none⟩ = some (.int .u8 x) from by simpa using h0]
    rw [hl]
    simp only [Result.andThen_ok, ha, ih]
    congr 1
    simp [bU, ByteArray.push]
theorem bytesOf_run (w : World) (v : Value) (xs : List Int) (h : Src w v xs) : (Extern.Bytes.bytesOf v).run P w = .ok ⟨(bU xs).toArray⟩ w := by
  rcases h with (⟨rfl, rfl⟩ | ⟨g, o, c, rfl, _, hc⟩) | ⟨x, c, rfl, rfl⟩
  · rfl
  · have := loadBytes_run (P := P) w g xs o .empty hc
    simpa [Extern.Bytes.bytesOf] using this
  · simp [Extern.Bytes.bytesOf, Extern.Bytes.loadBytes, bU]; rfl
theorem run_compareRows (w : World) (v1 v2 : Value) (xs ys : List Int) (h1 : Src w v1 xs) (h2 : Src w v2 ys) :
    (Extern.BytealgCompare.compare #[v1, v2]).run P w = .ok (.int .i64 (compareBytes (bU xs) (bU ys))) w := by
  change Sem.run P (do pure (goInt (Extern.BytealgCompare.cmp (← Extern.Bytes.bytesOf v1) (← Extern.Bytes.bytesOf v2)))) w = _
  simp only [Sem.run_bind, bytesOf_run w v1 xs h1, bytesOf_run w v2 ys h2, Result.andThen_ok, Sem.run_pure, cmp_eq]
  rfl
end
end Go.Proofs.YtboofamenpcnhaaGreatDoor
namespace Go.Proofs.YtboofamenpcnhaaGreatDoor
set_option maxRecDepth 100000
open Go.RowKit Go.Shelf
set_option linter.unusedVariables false
set_option linter.unusedSimpArgs false
theorem bcmp_any (w : World) (v1 v2 : Value) (xs ys : List Int) (h1 : Src w v1 xs) (h2 : Src w v2 ys) : Calls Tryz.prog 36 #[v1, v2] w fun e w' => e = .returned (.int .i64 (Lib.compareBytes (bU xs) (bU ys))) ∧ w' = w := by
  go_enter Tryz.func36, Tryz.ntmps36
  go_wp2_with fail
  rw [run_callFunc_extern Tryz.func68 (by kernel_rfl) (by kernel_rfl) (by kernel_rfl) (e := Extern.BytealgCompare.compare) (by kernel_rfl), run_compareRows w v1 v2 xs ys h1 h2]
  simp only [Result.andThen]
  rw [Oper.upon_value]
  obtain ⟨r, hr⟩ : ∃ r, Lib.compareBytes (bU xs) (bU ys) = r := ⟨_, rfl⟩
  rw [hr]
  have HR := Lib.hid hr
  clear hr
  go_wp2_with fail
  go_ret
  exact ⟨by first | rfl | (rw [HR.out]; rfl) | (rw [← HR.out]; rfl), rfl⟩
theorem clos35 (x y : Ky) (hx : x.Ok) (hy : y.Ok) (w : World) : Calls Tryz.prog 35 #[.agg x.vals.toArray, .agg y.vals.toArray] w fun e w' => e = .returned (.int .i64 (cmpK x y)) ∧ Turn (fun _ => False) w w' := by
  have hb1 := box_alloc w 32 x.vals
  obtain ⟨w1, hw1⟩ : ∃ w1, w.alloc (.cells x.vals.toArray 32) = w1 := ⟨_, rfl⟩
  rw [hw1] at hb1
  have hb2 := box_alloc w1 32 y.vals
  obtain ⟨w2, hw2⟩ : ∃ w2, w1.alloc (.cells y.vals.toArray 32) = w2 := ⟨_, rfl⟩
  rw [hw2] at hb2
  have src : ∀ (W : World) (B : Nat) (o : Ky), o.Ok → W.heap[B]? = some (.cells o.vals.toArray 32 (0, 0)) → Src W (.slice (some ⟨B, 0, none⟩) 32 32) o.key := fun W B o ho hh => by
    refine .inl (.inr ⟨B, 0, 32, by rw [ho.len], by rw [ho.len]; exact Nat.le_refl _, fun i hi => ?_⟩)
    rw [Nat.zero_add, cell_of_row W B i _ 32 (0, 0) hh]
    simp [Ky.vals, List.getD, hi]
  have hh1 := hb1.later hb2.turn
  have hh2 := hb2.heap
  have S1 := Lib.hid (src _ _ x hx hh1)
  have S2 := Lib.hid (src _ _ y hy hh2)
  have HT := Lib.hid (hb1.turn.trans hb2.turn (fun _ _ => id))
  have HH1 := Lib.hid hh1
  have HH2 := Lib.hid hh2
  obtain ⟨B1, hB1⟩ : ∃ B1, w.heap.size = B1 := ⟨_, rfl⟩
  obtain ⟨B2, hB2⟩ : ∃ B2, w1.heap.size = B2 := ⟨_, rfl⟩
  rw [hB1] at S1 HH1
  rw [hB2] at S2 HH2
  have th1 : w2.there B1 0 32 := by have := there_row HH1.out; rwa [hx.vlen] at this
  have th2 : w2.there B2 0 32 := by have := there_row HH2.out; rwa [hy.vlen] at this
  clear hb1 hb2 src hh1 hh2 hx hy
  go_enter Tryz.func35, Tryz.ntmps35
  go_wp2_with fail
  refine wp_region_held_drew (S := fun _ => True) (by kernel_rfl) trivial (fun hHeld => ?_)
  refine wpAnyH_take (i := 0) (v := .slice (some ⟨B1, 0, none⟩) 32 32) rfl (by kernel_rfl) (by kernel_rfl) (by kernel_rfl) (fun _ _ _ h => h) (Or.inl ⟨by rfl, ?yq162⟩) (by assumption) ?rq162
  case yq162 => (intro wq hSw; (try simp only [zq1, zq2, zq3]); go_simp; (try with_reducible rfl); all_goals (try omega))
  case rq162 =>
  try simp only [Act.put, zq4, zq5, zq6, zq1, zq2, zq3]
  refine wpAnyH_take (i := 1) (v := .slice (some ⟨B2, 0, none⟩) 32 32) rfl (by kernel_rfl) (by kernel_rfl) (by kernel_rfl) (fun _ _ _ h => h) (Or.inl ⟨by rfl, ?yq163⟩) (by assumption) ?rq163
  case yq163 => (intro wq hSw; (try simp only [zq1, zq2, zq3]); go_simp; (try with_reducible rfl); all_goals (try omega))
  case rq163 =>
  try simp only [Act.put, zq4, zq5, zq6, zq1, zq2, zq3]
  refine wpAnyH_ready (rs := [2]) (by kernel_rfl) (by simp) ?_
  refine AllReadyH.cons rfl (fun K hK => ?_) AllReadyH.nil
  go_simp
  refine (bcmp_any w2.drew _ _ x.key y.key S1.out S2.out).mono ?_
  rintro e w4 ⟨rfl, rfl⟩
  refine hK.out _ _ trivial (fun _ => ?_)
  clear hK K
  try simp only [Act.put, zq4, zq5, zq6, zq1, zq2, zq3]
  refine wpAnyH_take (i := 3) (v := .int .i64 (cmpK x y)) rfl (by kernel_rfl) (by kernel_rfl) (by kernel_rfl) (fun _ _ _ h => h) (Or.inl ⟨by rfl, ?yq164⟩) (by assumption) ?rq164
  case yq164 => (intro wq hSw; (try simp only [zq1, zq2, zq3]); go_simp; rfl)
  case rq164 =>
  try simp only [Act.put, zq4, zq5, zq6, zq1, zq2, zq3]
  refine wpAnyH_done (by kernel_rfl) ?_ _
  clear hHeld
  go_wp2_with fail
  go_ret
  exact ⟨by first | rfl | simp [cmpK], HT.out.drew⟩
end Go.Proofs.YtboofamenpcnhaaGreatDoor
namespace Go.Proofs.YtboofamenpcnhaaGreatDoor
set_option maxRecDepth 100000
open Go.RowKit Go.Shelf
set_option linter.unusedVariables false
set_option linter.unusedSimpArgs false
set_option maxHeartbeats 16000000 in
theorem kins_any (w : World) (g c n : Nat) (rs0 : List Ky) (ex : List Value) (h : KBk w g rs0 ex) (hl : rs0.length = n) (hn12 : n ≤ 12) (hnc : n ≤ c) :
    Calls Tryz.prog 87 #[.slice (some ⟨g, 0, none⟩) n c, .int .i64 0, .int .i64 (n : Int), .func (.func 35) #[] #[]] w fun e w' => (∃ v, e = .returned v) ∧ ∃ rs, InsI rs0 rs n n ∧ KBk w' g rs ex ∧ Turn (fun k => k = g) w w' := by
  have HRB := Lib.hid h
  have HL := Lib.hid hl
  clear h hl
  go_enter Tryz.func87, Tryz.ntmps87
  go_wp2_with fail
  go_loopw [8] (fun iv wr => ∃ (i : Nat) (rs : List Ky), 1 ≤ i ∧ (i ≤ n ∨ i = 1) ∧ iv = .int .i64 (i : Int) ∧ InsI rs0 rs n i ∧ KBk wr g rs ex ∧ Turn (fun k => k = g) w wr) (fun iv _ => 13 - (intOf iv).toNat)
  case atStart => exact ⟨1, rs0, by omega, .inr rfl, by go_num, ⟨HL.out, List.Perm.refl _, fun p q h1 h2 => by omega⟩, HRB.out, Turn.refl _ _⟩
  case round =>
    obtain ⟨i, rs, hi1, hin, rfl, hI, hrb, htr⟩ := hrel
    have HI := Lib.hid hI
    have HRBr := Lib.hid hrb
    have HTr := Lib.hid htr
    clear hI hrb htr
    by_cases hlt : i < n
    · have hd1 : decide ((i : Int) < (n : Int)) = true := decide_eq_true (by omega)
      have hwi : IntKind.i64.wrap ((i : Int) + 1) = (i : Int) + 1 := by rw [IntKind.wrap_i64]; omega
      go_wp2_with fail
      go_loopw [9] (fun jv wq => ∃ j : Nat, j ≤ i ∧ jv = .int .i64 (j : Int) ∧ ∃ rs, InsJ rs0 rs n i j ∧ KBk wq g rs ex ∧ Turn (fun k => k = g) w wq) (fun jv _ => (intOf jv).toNat)
      case atStart => exact ⟨i, Nat.le_refl _, rfl, rs, HI.out.start, HRBr.out, HTr.out⟩
      case round =>
        clear HI HRBr HTr
        rename_i wr0
        obtain ⟨j, hji, rfl, rs, hJ, hrb, htr⟩ := hrel
        have HJ := Lib.hid hJ
        have HRBr := Lib.hid hrb
        have HTr := Lib.hid htr
        have HLn := Lib.hid hJ.len
        clear hJ hrb htr
        by_cases hj0 : 0 < j
        · have hd2 : decide ((0 : Int) < (j : Int)) = true := decide_eq_true (by omega)
          have hwj : IntKind.i64.wrap ((j : Int) - 1) = (j : Int) - 1 := by rw [IntKind.wrap_i64]; omega
          have gj : (0 : Int) ≤ (j : Int) ∧ (j : Int) < (n : Int) := by omega
          have gj1 : (0 : Int) ≤ (j : Int) - 1 ∧ (j : Int) - 1 < (n : Int) := by omega
          have gj2 : (0 : Int) ≤ (j : Int) - 1 := by omega
          have gj3 : (j : Int) - 1 < (n : Int) := by omega
          have htn : ((j : Int) - 1).toNat = j - 1 := by omega
          have hjl : j < rs.length := by rw [HLn.out]; omega
          have hjl1 : j - 1 < rs.length := by omega
          have hx := HRBr.out.get j hjl
          have hy := HRBr.out.get (j - 1) hjl1
          have hSx := HRBr.out.row.at_ j hjl
          have hSy := HRBr.out.row.at_ (j - 1) hjl1
          rw [Nat.zero_add] at hSx hSy
          generalize hxe : rs.getD j ky0 = x at *
          generalize hye : rs.getD (j - 1) ky0 = y at *
          have HXE := Lib.hid hxe
          have HYE := Lib.hid hye
          clear hxe hye
          go_wp2_with fail
          refine wp_region_held_drew (S := fun wq => wq.rangeAt g (j * 32) x.vals ∧ wq.rangeAt g ((j - 1) * 32) y.vals) (by kernel_rfl) ⟨hSx, hSy⟩ (fun hHeld => ?_)
          refine wpAnyH_take (i := 0) (v := .int .i64 (j : Int)) rfl (by kernel_rfl) (by kernel_rfl) (by kernel_rfl) (fun _ _ _ h => h) (Or.inl ⟨by rfl, ?yq1⟩) (by assumption) ?rq1
          case yq1 => (intro wq hSw; (try simp only [zq1, zq2, zq3]); go_simp; (try with_reducible rfl); all_goals (try omega))
          case rq1 =>
          try simp only [Act.put, zq4, zq5, zq6, zq1, zq2, zq3]
          refine wpAnyH_take (i := 1) (v := .int .i64 0) rfl (by kernel_rfl) (by kernel_rfl) (by kernel_rfl) (fun _ _ _ h => h) (Or.inl ⟨by rfl, ?yq2⟩) (by assumption) ?rq2
          case yq2 => (intro wq hSw; (try simp only [zq1, zq2, zq3]); go_simp; (try with_reducible rfl); all_goals (try omega))
          case rq2 =>
          try simp only [Act.put, zq4, zq5, zq6, zq1, zq2, zq3]
          refine wpAnyH_take (i := 2) (v := .bool true) rfl (by kernel_rfl) (by kernel_rfl) (by kernel_rfl) (fun _ _ _ h => h) (Or.inl ⟨by rfl, ?yq3⟩) (by assumption) ?rq3
          case yq3 => (intro wq hSw; (try simp only [zq1, zq2, zq3]); go_simp; (try with_reducible rfl); all_goals (try omega))
          case rq3 =>
          try simp only [Act.put, zq4, zq5, zq6, zq1, zq2, zq3]
          refine wpAnyH_take (i := 3) (v := .bool true) rfl (by kernel_rfl) (by kernel_rfl) (by kernel_rfl) (fun _ _ _ h => h) (Or.inl ⟨by rfl, ?yq4⟩) (by assumption) ?rq4
          case yq4 => (intro wq hSw; (try simp only [zq1, zq2, zq3]); go_simp; (try with_reducible rfl); all_goals (try omega))
          case rq4 =>
          try simp only [Act.put, zq4, zq5, zq6, zq1, zq2, zq3]
          refine wpAnyH_take (i := 4) (v := .func (.func 35) #[] #[]) rfl (by kernel_rfl) (by kernel_rfl) (by kernel_rfl) (fun _ _ _ h => h) (Or.inl ⟨by rfl, ?yq5⟩) (by assumption) ?rq5
          case yq5 => (intro wq hSw; (try simp only [zq1, zq2, zq3]); go_simp; (try with_reducible rfl); all_goals (try omega))
          case rq5 =>
          try simp only [Act.put, zq4, zq5, zq6, zq1, zq2, zq3]
          refine wpAnyH_take (i := 5) (v := .slice (some ⟨g, 0, none⟩) n c) rfl (by kernel_rfl) (by kernel_rfl) (by kernel_rfl) (fun _ _ _ h => h) (Or.inl ⟨by rfl, ?yq6⟩) (by assumption) ?rq6
          case yq6 => (intro wq hSw; (try simp only [zq1, zq2, zq3]); go_simp; (try with_reducible rfl); all_goals (try omega))
          case rq6 =>
          try simp only [Act.put, zq4, zq5, zq6, zq1, zq2, zq3]
          refine wpAnyH_take (i := 6) (v := .int .i64 (j : Int)) rfl (by kernel_rfl) (by kernel_rfl) (by kernel_rfl) (fun _ _ _ h => h) (Or.inl ⟨by rfl, ?yq7⟩) (by assumption) ?rq7
          case yq7 => (intro wq hSw; (try simp only [zq1, zq2, zq3]); go_simp; (try with_reducible rfl); all_goals (try omega))
          case rq7 =>
          try simp only [Act.put, zq4, zq5, zq6, zq1, zq2, zq3]
          refine wpAnyH_take (i := 7) (v := .pointer (some ⟨g, j * 32, none⟩)) rfl (by kernel_rfl) (by kernel_rfl) (by kernel_rfl) (fun _ _ _ h => h) (Or.inl ⟨by rfl, ?yq8⟩) (by assumption) ?rq8
          case yq8 => (intro wq hSw; (try simp only [zq1, zq2, zq3]); go_simp; (try with_reducible rfl); all_goals (try omega))
          case rq8 =>
          try simp only [Act.put, zq4, zq5, zq6, zq1, zq2, zq3]
          refine wpAnyH_take (i := 8) (v := .agg x.vals.toArray) rfl (by kernel_rfl) (by kernel_rfl) (by kernel_rfl) (fun _ _ _ h => h) (Or.inl ⟨by rfl, ?yq9⟩) (by assumption) ?rq9
          case yq9 => (intro wq hSw; exact exec_load_mid _ _ 32 _ rfl g (j * 32) (by first | rfl | simp) x.vals _ _ hSw.1 Tryz.underlying32 rfl (by rw [hx.vlen]; exact info32))
          case rq9 =>
          try simp only [Act.put, zq4, zq5, zq6, zq1, zq2, zq3]
          refine wpAnyH_take (i := 9) (v := .slice (some ⟨g, 0, none⟩) n c) rfl (by kernel_rfl) (by kernel_rfl) (by kernel_rfl) (fun _ _ _ h => h) (Or.inl ⟨by rfl, ?yq10⟩) (by assumption) ?rq10
          case yq10 => (intro wq hSw; (try simp only [zq1, zq2, zq3]); go_simp; (try with_reducible rfl); all_goals (try omega))
          case rq10 =>
          try simp only [Act.put, zq4, zq5, zq6, zq1, zq2, zq3]
          refine wpAnyH_take (i := 10) (v := .int .i64 (j : Int)) rfl (by kernel_rfl) (by kernel_rfl) (by kernel_rfl) (fun _ _ _ h => h) (Or.inl ⟨by rfl, ?yq11⟩) (by assumption) ?rq11
          case yq11 => (intro wq hSw; (try simp only [zq1, zq2, zq3]); go_simp; (try with_reducible rfl); all_goals (try omega))
          case rq11 =>
          try simp only [Act.put, zq4, zq5, zq6, zq1, zq2, zq3]
          refine wpAnyH_take (i := 11) (v := .int .i64 ((j : Int) - 1)) rfl (by kernel_rfl) (by kernel_rfl) (by kernel_rfl) (fun _ _ _ h => h) (Or.inl ⟨by rfl, ?yq12⟩) (by assumption) ?rq12
          case yq12 => (intro wq hSw; (try simp only [zq1, zq2, zq3]); go_simp; (try with_reducible rfl); all_goals (try omega))
          case rq12 =>
          try simp only [Act.put, zq4, zq5, zq6, zq1, zq2, zq3]
          refine wpAnyH_take (i := 12) (v := .pointer (some ⟨g, (j - 1) * 32, none⟩)) rfl (by kernel_rfl) (by kernel_rfl) (by kernel_rfl) (fun _ _ _ h => h) (Or.inl ⟨by rfl, ?yq13⟩) (by assumption) ?rq13
          case yq13 => (intro wq hSw; (try simp only [zq1, zq2, zq3]); go_simp; (try with_reducible rfl); all_goals (try omega))
          case rq13 =>
          try simp only [Act.put, zq4, zq5, zq6, zq1, zq2, zq3]
          refine wpAnyH_take (i := 13) (v := .agg y.vals.toArray) rfl (by kernel_rfl) (by kernel_rfl) (by kernel_rfl) (fun _ _ _ h => h) (Or.inl ⟨by rfl, ?yq14⟩) (by assumption) ?rq14
          case yq14 => (intro wq hSw; exact exec_load_mid _ _ 32 _ rfl g ((j - 1) * 32) (by first | rfl | simp) y.vals _ _ hSw.2 Tryz.underlying32 rfl (by rw [hy.vlen]; exact info32))
          case rq14 =>
          try simp only [Act.put, zq4, zq5, zq6, zq1, zq2, zq3]
          refine wpAnyH_ready (rs := [14]) (by kernel_rfl) (by simp) ?_
          refine AllReadyH.cons rfl (fun K hK => ?_) AllReadyH.nil
          go_simp
          refine (clos35 x y hx hy wr.drew).mono ?_
          rintro e w4 ⟨rfl, t4⟩
          have HT4 := Lib.hid (show Turn (fun _ => False) wr w4 from (Turn.refl (fun _ => False) wr).drew.trans t4 (fun _ _ => id))
          clear t4
          refine hK.out _ _ ⟨rangeAt_turn hSx HT4.out id, rangeAt_turn hSy HT4.out id⟩ (fun _ => ?_)
          clear hK K
          try simp only [Act.put, zq4, zq5, zq6, zq1, zq2, zq3]
          refine wpAnyH_take (i := 15) (v := .bool (decide (cmpK x y < 0))) rfl (by kernel_rfl) (by kernel_rfl) (by kernel_rfl) (fun _ _ _ h => h) (Or.inl ⟨by rfl, ?yq15⟩) (by assumption) ?rq15
          case yq15 => (intro wq hSw; (try simp only [zq1, zq2, zq3]); go_simp; (try with_reducible rfl); all_goals (try omega))
          case rq15 =>
          try simp only [Act.put, zq4, zq5, zq6, zq1, zq2, zq3]
          refine wpAnyH_take (i := 16) (v := .bool (decide (cmpK x y < 0))) rfl (by kernel_rfl) (by kernel_rfl) (by kernel_rfl) (fun _ _ _ h => h) (Or.inl ⟨by rfl, ?yq16⟩) (by assumption) ?rq16
          case yq16 => (intro wq hSw; (try simp only [zq1, zq2, zq3]); go_simp; (try with_reducible rfl); all_goals (try omega))
          case rq16 =>
          try simp only [Act.put, zq4, zq5, zq6, zq1, zq2, zq3]
          refine wpAnyH_done (by kernel_rfl) ?_ _
          clear hHeld
          have HRB4 := Lib.hid (HRBr.out.turn HT4.out id)
          have HTr4 := Lib.hid (HTr.out.trans (HT4.out.mono (fun _ _ h => h.elim)) (fun _ _ h => h))
          have hSx4 := rangeAt_turn hSx HT4.out id
          have hSy4 := rangeAt_turn hSy HT4.out id
          clear hSx hSy
          by_cases hc : cmpK x y < 0
          · rw [decide_eq_true hc]
            have HLT := Lib.hid hc
            clear hc
            have hSx : w4.drew.rangeAt g (j * 32) x.vals := hSx4
            have hSy : w4.drew.rangeAt g ((j - 1) * 32) y.vals := hSy4
            have HRBd := Lib.hid (show KBk w4.drew g rs ex from HRB4.out.turn (Turn.refl (fun _ => False) w4).drew id)
            have HTd := Lib.hid (show Turn (fun k => k = g) w w4.drew from HTr4.out.drew)
            clear hSx4 hSy4
            go_wp2_with fail
            refine wp_region_held_drew (S := fun _ => True) (by kernel_rfl) trivial (fun hHeld => ?_)
            generalize w4.drew = wd at *
            refine wpAnyH_take (i := 0) (v := .slice (some ⟨g, 0, none⟩) n c) rfl (by kernel_rfl) (by kernel_rfl) (by kernel_rfl) (fun _ _ _ h => h) (Or.inl ⟨by rfl, ?yq150⟩) (by assumption) ?rq150
            case yq150 => (intro wq hSw; (try simp only [zq1, zq2, zq3]); go_simp; (try with_reducible rfl); all_goals (try omega))
            case rq150 =>
            try simp only [Act.put, zq4, zq5, zq6, zq1, zq2, zq3]
            refine wpAnyH_take (i := 1) (v := .int .i64 (j : Int)) rfl (by kernel_rfl) (by kernel_rfl) (by kernel_rfl) (fun _ _ _ h => h) (Or.inl ⟨by rfl, ?yq151⟩) (by assumption) ?rq151
            case yq151 => (intro wq hSw; (try simp only [zq1, zq2, zq3]); go_simp; (try with_reducible rfl); all_goals (try omega))
            case rq151 =>
            try simp only [Act.put, zq4, zq5, zq6, zq1, zq2, zq3]
            refine wpAnyH_take (i := 2) (v := .slice (some ⟨g, 0, none⟩) n c) rfl (by kernel_rfl) (by kernel_rfl) (by kernel_rfl) (fun _ _ _ h => h) (Or.inl ⟨by rfl, ?yq152⟩) (by assumption) ?rq152
            case yq152 => (intro wq hSw; (try simp only [zq1, zq2, zq3]); go_simp; (try with_reducible rfl); all_goals (try omega))
            case rq152 =>
            try simp only [Act.put, zq4, zq5, zq6, zq1, zq2, zq3]
            refine wpAnyH_take (i := 3) (v := .int .i64 (j : Int)) rfl (by kernel_rfl) (by kernel_rfl) (by kernel_rfl) (fun _ _ _ h => h) (Or.inl ⟨by rfl, ?yq153⟩) (by assumption) ?rq153
            case yq153 => (intro wq hSw; (try simp only [zq1, zq2, zq3]); go_simp; (try with_reducible rfl); all_goals (try omega))
            case rq153 =>
            try simp only [Act.put, zq4, zq5, zq6, zq1, zq2, zq3]
            refine wpAnyH_take (i := 4) (v := .int .i64 ((j : Int) - 1)) rfl (by kernel_rfl) (by kernel_rfl) (by kernel_rfl) (fun _ _ _ h => h) (Or.inl ⟨by rfl, ?yq154⟩) (by assumption) ?rq154
            case yq154 => (intro wq hSw; (try simp only [zq1, zq2, zq3]); go_simp; (try with_reducible rfl); all_goals (try omega))
            case rq154 =>
            try simp only [Act.put, zq4, zq5, zq6, zq1, zq2, zq3]
            refine wpAnyH_take (i := 5) (v := .slice (some ⟨g, 0, none⟩) n c) rfl (by kernel_rfl) (by kernel_rfl) (by kernel_rfl) (fun _ _ _ h => h) (Or.inl ⟨by rfl, ?yq155⟩) (by assumption) ?rq155
            case yq155 => (intro wq hSw; (try simp only [zq1, zq2, zq3]); go_simp; (try with_reducible rfl); all_goals (try omega))
            case rq155 =>
            try simp only [Act.put, zq4, zq5, zq6, zq1, zq2, zq3]
            refine wpAnyH_take (i := 6) (v := .int .i64 (j : Int)) rfl (by kernel_rfl) (by kernel_rfl) (by kernel_rfl) (fun _ _ _ h => h) (Or.inl ⟨by rfl, ?yq156⟩) (by assumption) ?rq156
            case yq156 => (intro wq hSw; (try simp only [zq1, zq2, zq3]); go_simp; (try with_reducible rfl); all_goals (try omega))
            case rq156 =>
            try simp only [Act.put, zq4, zq5, zq6, zq1, zq2, zq3]
            refine wpAnyH_take (i := 7) (v := .int .i64 ((j : Int) - 1)) rfl (by kernel_rfl) (by kernel_rfl) (by kernel_rfl) (fun _ _ _ h => h) (Or.inl ⟨by rfl, ?yq157⟩) (by assumption) ?rq157
            case yq157 => (intro wq hSw; (try simp only [zq1, zq2, zq3]); go_simp; (try with_reducible rfl); all_goals (try omega))
            case rq157 =>
            try simp only [Act.put, zq4, zq5, zq6, zq1, zq2, zq3]
            refine wpAnyH_take (i := 8) (v := .pointer (some ⟨g, (j - 1) * 32, none⟩)) rfl (by kernel_rfl) (by kernel_rfl) (by kernel_rfl) (fun _ _ _ h => h) (Or.inl ⟨by rfl, ?yq158⟩) (by assumption) ?rq158
            case yq158 => (intro wq hSw; (try simp only [zq1, zq2, zq3]); go_simp; (try with_reducible rfl); all_goals (try omega))
            case rq158 =>
            try simp only [Act.put, zq4, zq5, zq6, zq1, zq2, zq3]
            refine wpAnyH_take (i := 10) (v := .slice (some ⟨g, 0, none⟩) n c) rfl (by kernel_rfl) (by kernel_rfl) (by kernel_rfl) (fun _ _ _ h => h) (Or.inl ⟨by rfl, ?yq159⟩) (by assumption) ?rq159
            case yq159 => (intro wq hSw; (try simp only [zq1, zq2, zq3]); go_simp; (try with_reducible rfl); all_goals (try omega))
            case rq159 =>
            try simp only [Act.put, zq4, zq5, zq6, zq1, zq2, zq3]
            refine wpAnyH_take (i := 11) (v := .int .i64 (j : Int)) rfl (by kernel_rfl) (by kernel_rfl) (by kernel_rfl) (fun _ _ _ h => h) (Or.inl ⟨by rfl, ?yq160⟩) (by assumption) ?rq160
            case yq160 => (intro wq hSw; (try simp only [zq1, zq2, zq3]); go_simp; (try with_reducible rfl); all_goals (try omega))
            case rq160 =>
            try simp only [Act.put, zq4, zq5, zq6, zq1, zq2, zq3]
            refine wpAnyH_take (i := 12) (v := .pointer (some ⟨g, j * 32, none⟩)) rfl (by kernel_rfl) (by kernel_rfl) (by kernel_rfl) (fun _ _ _ h => h) (Or.inl ⟨by rfl, ?yq161⟩) (by assumption) ?rq161
            case yq161 => (intro wq hSw; (try simp only [zq1, zq2, zq3]); go_simp; (try with_reducible rfl); all_goals (try omega))
            case rq161 =>
            try simp only [Act.put, zq4, zq5, zq6, zq1, zq2, zq3]
            refine wpAnyH_ready (rs := [9, 13]) (by kernel_rfl) (by simp) ?_
            refine AllReadyH.cons rfl (fun K hK => ?_) (AllReadyH.cons rfl (fun K hK => ?_) AllReadyH.nil)
            · rw [if_pos (by rfl)]
              refine wp_load_mid 32 _ rfl g ((j - 1) * 32) (by first | rfl | simp) y.vals _ hSy Tryz.underlying32 rfl (by rw [hy.vlen]; exact info32) ?_
              refine hK.out _ _ trivial (fun _ => ?_)
              clear hK K
              try simp only [Act.put, zq4, zq5, zq6, zq1, zq2, zq3]
              refine wpAnyH_ready (rs := [13]) (by kernel_rfl) (by simp) ?_
              refine AllReadyH.cons rfl (fun K hK => ?_) AllReadyH.nil
              rw [if_pos (by rfl)]
              refine wp_load_mid 32 _ rfl g (j * 32) (by first | rfl | simp) x.vals _ hSx Tryz.underlying32 rfl (by rw [hx.vlen]; exact info32) ?_
              refine hK.out _ _ trivial (fun _ => ?_)
              clear hK K
              try simp only [Act.put, zq4, zq5, zq6, zq1, zq2, zq3]
              refine wpAnyH_take (i := 14) (v := .pointer (some ⟨g, j * 32, none⟩)) rfl (by kernel_rfl) (by kernel_rfl) (by kernel_rfl) (fun _ _ _ h => h) (Or.inl ⟨by rfl, ?yq46⟩) (by assumption) ?rq46
              case yq46 => (intro wq hSw; (try simp only [zq1, zq2, zq3]); go_simp; (try with_reducible rfl); all_goals (try omega))
              case rq46 =>
              try simp only [Act.put, zq4, zq5, zq6, zq1, zq2, zq3]
              refine wpAnyH_ready (rs := [15]) (by kernel_rfl) (by simp) ?_
              refine AllReadyH.cons rfl (fun K hK => ?_) AllReadyH.nil
              rw [if_pos (by rfl)]
              refine wp_store_mid 32 (.tmp 51) (.tmp 46) rfl g (j * 32) y.vals.toArray (by first | rfl | simp) rfl (by simpa [hy.vlen] using HRBd.out.there j (by rw [HLn.out]; omega)) (info32w hy) (all_oneCell_toArray y.vals_one) ?_
              have hset := HRBd.out.set j (by rw [HLn.out]; omega) y hy
              have tS := turn_setCells g y.vals (j * 32) wd
              rw [show y.vals.toArray.toList = y.vals from rfl]
              generalize wd.setCells g (j * 32) y.vals = w5 at *
              have HS5 := Lib.hid hset
              have HT5 := Lib.hid (HTd.out.trans tS (fun _ _ h => h))
              clear hset tS
              refine hK.out _ _ trivial (fun _ => ?_)
              clear hK K
              try simp only [Act.put, zq4, zq5, zq6, zq1, zq2, zq3]
              refine wpAnyH_take (i := 16) (v := .pointer (some ⟨g, (j - 1) * 32, none⟩)) rfl (by kernel_rfl) (by kernel_rfl) (by kernel_rfl) (fun _ _ _ h => h) (Or.inl ⟨by rfl, ?yq47⟩) (by assumption) ?rq47
              case yq47 => (intro wq hSw; (try simp only [zq1, zq2, zq3]); go_simp; (try with_reducible rfl); all_goals (try omega))
              case rq47 =>
              try simp only [Act.put, zq4, zq5, zq6, zq1, zq2, zq3]
              refine wpAnyH_ready (rs := [17]) (by kernel_rfl) (by simp) ?_
              refine AllReadyH.cons rfl (fun K hK => ?_) AllReadyH.nil
              rw [if_pos (by rfl)]
              refine wp_store_mid 32 (.tmp 52) (.tmp 50) rfl g ((j - 1) * 32) x.vals.toArray (by first | rfl | simp) rfl (by simpa [hx.vlen] using HS5.out.there (j - 1) (by simp [HLn.out]; omega)) (info32w hx) (all_oneCell_toArray x.vals_one) ?_
              have hset := HS5.out.set (j - 1) (by simp [HLn.out]; omega) x hx
              have tS := turn_setCells g x.vals ((j - 1) * 32) w5
              rw [show x.vals.toArray.toList = x.vals from rfl]
              generalize w5.setCells g ((j - 1) * 32) x.vals = w6 at *
              have HS6 := Lib.hid hset
              have HT6 := Lib.hid (HT5.out.trans tS (fun _ _ h => h))
              clear hset tS
              refine hK.out _ _ trivial (fun _ => ?_)
              clear hK K
              try simp only [Act.put, zq4, zq5, zq6, zq1, zq2, zq3]
              refine wpAnyH_done (by kernel_rfl) ?_ _
              clear hHeld
              go_wp2_with fail
              go_roundw
              case rel =>
                refine ⟨j - 1, by omega, by rw [show ((j - 1 : Nat) : Int) = (j : Int) - 1 by omega], _, ?_, HS6.out, HT6.out⟩
                have h9 := HJ.out.down hj0 hji (by omega) (Nat.le_refl _) (by rw [HXE.out, HYE.out]; exact HLT.out)
                rw [HXE.out, HYE.out] at h9
                exact h9
              case measure => simp [intOf]; omega
            · rw [if_pos (by rfl)]
              refine wp_load_mid 32 _ rfl g (j * 32) (by first | rfl | simp) x.vals _ hSx Tryz.underlying32 rfl (by rw [hx.vlen]; exact info32) ?_
              refine hK.out _ _ trivial (fun _ => ?_)
              clear hK K
              try simp only [Act.put, zq4, zq5, zq6, zq1, zq2, zq3]
              refine wpAnyH_ready (rs := [9]) (by kernel_rfl) (by simp) ?_
              refine AllReadyH.cons rfl (fun K hK => ?_) AllReadyH.nil
              rw [if_pos (by rfl)]
              refine wp_load_mid 32 _ rfl g ((j - 1) * 32) (by first | rfl | simp) y.vals _ hSy Tryz.underlying32 rfl (by rw [hy.vlen]; exact info32) ?_
              refine hK.out _ _ trivial (fun _ => ?_)
              clear hK K
              try simp only [Act.put, zq4, zq5, zq6, zq1, zq2, zq3]
              refine wpAnyH_take (i := 14) (v := .pointer (some ⟨g, j * 32, none⟩)) rfl (by kernel_rfl) (by kernel_rfl) (by kernel_rfl) (fun _ _ _ h => h) (Or.inl ⟨by rfl, ?yq48⟩) (by assumption) ?rq48
              case yq48 => (intro wq hSw; (try simp only [zq1, zq2, zq3]); go_simp; (try with_reducible rfl); all_goals (try omega))
              case rq48 =>
              try simp only [Act.put, zq4, zq5, zq6, zq1, zq2, zq3]
              refine wpAnyH_ready (rs := [15]) (by kernel_rfl) (by simp) ?_
              refine AllReadyH.cons rfl (fun K hK => ?_) AllReadyH.nil
              rw [if_pos (by rfl)]
              refine wp_store_mid 32 (.tmp 51) (.tmp 46) rfl g (j * 32) y.vals.toArray (by first | rfl | simp) rfl (by simpa [hy.vlen] using HRBd.out.there j (by rw [HLn.out]; omega)) (info32w hy) (all_oneCell_toArray y.vals_one) ?_
              have hset := HRBd.out.set j (by rw [HLn.out]; omega) y hy
              have tS := turn_setCells g y.vals (j * 32) wd
              rw [show y.vals.toArray.toList = y.vals from rfl]
              generalize wd.setCells g (j * 32) y.vals = w5 at *
              have HS5 := Lib.hid hset
              have HT5 := Lib.hid (HTd.out.trans tS (fun _ _ h => h))
              clear hset tS
              refine hK.out _ _ trivial (fun _ => ?_)
              clear hK K
              try simp only [Act.put, zq4, zq5, zq6, zq1, zq2, zq3]
              refine wpAnyH_take (i := 16) (v := .pointer (some ⟨g, (j - 1) * 32, none⟩)) rfl (by kernel_rfl) (by kernel_rfl) (by kernel_rfl) (fun _ _ _ h => h) (Or.inl ⟨by rfl, ?yq49⟩) (by assumption) ?rq49
              case yq49 => (intro wq hSw; (try simp only [zq1, zq2, zq3]); go_simp; (try with_reducible rfl); all_goals (try omega))
              case rq49 =>
              try simp only [Act.put, zq4, zq5, zq6, zq1, zq2, zq3]
              refine wpAnyH_ready (rs := [17]) (by kernel_rfl) (by simp) ?_
              refine AllReadyH.cons rfl (fun K hK => ?_) AllReadyH.nil
              rw [if_pos (by rfl)]
              refine wp_store_mid 32 (.tmp 52) (.tmp 50) rfl g ((j - 1) * 32) x.vals.toArray (by first | rfl | simp) rfl (by simpa [hx.vlen] using HS5.out.there (j - 1) (by simp [HLn.out]; omega)) (info32w hx) (all_oneCell_toArray x.vals_one) ?_
              have hset := HS5.out.set (j - 1) (by simp [HLn.out]; omega) x hx
              have tS := turn_setCells g x.vals ((j - 1) * 32) w5
              rw [show x.vals.toArray.toList = x.vals from rfl]
              generalize w5.setCells g ((j - 1) * 32) x.vals = w6 at *
              have HS6 := Lib.hid hset
              have HT6 := Lib.hid (HT5.out.trans tS (fun _ _ h => h))
              clear hset tS
              refine hK.out _ _ trivial (fun _ => ?_)
              clear hK K
              try simp only [Act.put, zq4, zq5, zq6, zq1, zq2, zq3]
              refine wpAnyH_done (by kernel_rfl) ?_ _
              clear hHeld
              go_wp2_with fail
              go_roundw
              case rel =>
                refine ⟨j - 1, by omega, by rw [show ((j - 1 : Nat) : Int) = (j : Int) - 1 by omega], _, ?_, HS6.out, HT6.out⟩
                have h9 := HJ.out.down hj0 hji (by omega) (Nat.le_refl _) (by rw [HXE.out, HYE.out]; exact HLT.out)
                rw [HXE.out, HYE.out] at h9
                exact h9
              case measure => simp [intOf]; omega
          · rw [decide_eq_false hc]
            have HGE := Lib.hid (show cmpK y x ≤ 0 by have := cmpK_flip x y; omega)
            clear hc hSx4 hSy4
            go_wp2_with fail
            go_roundw
            case rel => exact ⟨i + 1, rs, by omega, .inl (by omega), by go_num, HJ.out.done hji (.inr (by rw [HXE.out, HYE.out]; exact HGE.out)), HRB4.out, HTr4.out⟩
            case measure => simp [intOf]; omega
        · obtain rfl : j = 0 := by omega
          go_wp2_with fail
          refine wp_region_held_drew (S := fun _ => True) (by kernel_rfl) trivial (fun hHeld => ?_)
          refine wpAnyH_take (i := 0) (v := .int .i64 0) rfl (by kernel_rfl) (by kernel_rfl) (by kernel_rfl) (fun _ _ _ h => h) (Or.inl ⟨by rfl, ?yq17⟩) (by assumption) ?rq17
          case yq17 => (intro wq hSw; (try simp only [zq1, zq2, zq3]); go_simp; (try with_reducible rfl); all_goals (try omega))
          case rq17 =>
          try simp only [Act.put, zq4, zq5, zq6, zq1, zq2, zq3]
          refine wpAnyH_take (i := 1) (v := .int .i64 0) rfl (by kernel_rfl) (by kernel_rfl) (by kernel_rfl) (fun _ _ _ h => h) (Or.inl ⟨by rfl, ?yq18⟩) (by assumption) ?rq18
          case yq18 => (intro wq hSw; (try simp only [zq1, zq2, zq3]); go_simp; (try with_reducible rfl); all_goals (try omega))
          case rq18 =>
          try simp only [Act.put, zq4, zq5, zq6, zq1, zq2, zq3]
          refine wpAnyH_take (i := 2) (v := .bool false) rfl (by kernel_rfl) (by kernel_rfl) (by kernel_rfl) (fun _ _ _ h => h) (Or.inl ⟨by rfl, ?yq19⟩) (by assumption) ?rq19
          case yq19 => (intro wq hSw; (try simp only [zq1, zq2, zq3]); go_simp; (try with_reducible rfl); all_goals (try omega))
          case rq19 =>
          try simp only [Act.put, zq4, zq5, zq6, zq1, zq2, zq3]
          refine wpAnyH_take (i := 3) (v := .bool false) rfl (by kernel_rfl) (by kernel_rfl) (by kernel_rfl) (fun _ _ _ h => h) (Or.inl ⟨by rfl, ?yq20⟩) (by assumption) ?rq20
          case yq20 => (intro wq hSw; (try simp only [zq1, zq2, zq3]); go_simp; (try with_reducible rfl); all_goals (try omega))
          case rq20 =>
          try simp only [Act.put, zq4, zq5, zq6, zq1, zq2, zq3]
          refine wpAnyH_take (i := 4) (v := undef) rfl (by kernel_rfl) (by kernel_rfl) (by kernel_rfl) (fun _ _ _ h => h) (Or.inr ⟨by rfl, rfl⟩) (by assumption) ?rq21
          case rq21 =>
          try simp only [Act.put, zq4, zq5, zq6, zq1, zq2, zq3]
          refine wpAnyH_take (i := 5) (v := undef) rfl (by kernel_rfl) (by kernel_rfl) (by kernel_rfl) (fun _ _ _ h => h) (Or.inr ⟨by rfl, rfl⟩) (by assumption) ?rq22
          case rq22 =>
          try simp only [Act.put, zq4, zq5, zq6, zq1, zq2, zq3]
          refine wpAnyH_take (i := 6) (v := undef) rfl (by kernel_rfl) (by kernel_rfl) (by kernel_rfl) (fun _ _ _ h => h) (Or.inr ⟨by rfl, rfl⟩) (by assumption) ?rq23
          case rq23 =>
          try simp only [Act.put, zq4, zq5, zq6, zq1, zq2, zq3]
          refine wpAnyH_take (i := 7) (v := undef) rfl (by kernel_rfl) (by kernel_rfl) (by kernel_rfl) (fun _ _ _ h => h) (Or.inr ⟨by rfl, rfl⟩) (by assumption) ?rq24
          case rq24 =>
          try simp only [Act.put, zq4, zq5, zq6, zq1, zq2, zq3]
          refine wpAnyH_take (i := 8) (v := undef) rfl (by kernel_rfl) (by kernel_rfl) (by kernel_rfl) (fun _ _ _ h => h) (Or.inr ⟨by rfl, rfl⟩) (by assumption) ?rq25
          case rq25 =>
          try simp only [Act.put, zq4, zq5, zq6, zq1, zq2, zq3]
          refine wpAnyH_take (i := 9) (v := undef) rfl (by kernel_rfl) (by kernel_rfl) (by kernel_rfl) (fun _ _ _ h => h) (Or.inr ⟨by rfl, rfl⟩) (by assumption) ?rq26
          case rq26 =>
          try simp only [Act.put, zq4, zq5, zq6, zq1, zq2, zq3]
          refine wpAnyH_take (i := 10) (v := undef) rfl (by kernel_rfl) (by kernel_rfl) (by kernel_rfl) (fun _ _ _ h => h) (Or.inr ⟨by rfl, rfl⟩) (by assumption) ?rq27
          case rq27 =>
          try simp only [Act.put, zq4, zq5, zq6, zq1, zq2, zq3]
          refine wpAnyH_take (i := 11) (v := undef) rfl (by kernel_rfl) (by kernel_rfl) (by kernel_rfl) (fun _ _ _ h => h) (Or.inr ⟨by rfl, rfl⟩) (by assumption) ?rq28
          case rq28 =>
          try simp only [Act.put, zq4, zq5, zq6, zq1, zq2, zq3]
          refine wpAnyH_take (i := 12) (v := undef) rfl (by kernel_rfl) (by kernel_rfl) (by kernel_rfl) (fun _ _ _ h => h) (Or.inr ⟨by rfl, rfl⟩) (by assumption) ?rq29
          case rq29 =>
          try simp only [Act.put, zq4, zq5, zq6, zq1, zq2, zq3]
          refine wpAnyH_take (i := 13) (v := undef) rfl (by kernel_rfl) (by kernel_rfl) (by kernel_rfl) (fun _ _ _ h => h) (Or.inr ⟨by rfl, rfl⟩) (by assumption) ?rq30
          case rq30 =>
          try simp only [Act.put, zq4, zq5, zq6, zq1, zq2, zq3]
          refine wpAnyH_take (i := 14) (v := undef) rfl (by kernel_rfl) (by kernel_rfl) (by kernel_rfl) (fun _ _ _ h => h) (Or.inr ⟨by rfl, rfl⟩) (by assumption) ?rq31
          case rq31 =>
          try simp only [Act.put, zq4, zq5, zq6, zq1, zq2, zq3]
          refine wpAnyH_take (i := 15) (v := undef) rfl (by kernel_rfl) (by kernel_rfl) (by kernel_rfl) (fun _ _ _ h => h) (Or.inr ⟨by rfl, rfl⟩) (by assumption) ?rq32
          case rq32 =>
          try simp only [Act.put, zq4, zq5, zq6, zq1, zq2, zq3]
          refine wpAnyH_take (i := 16) (v := .bool false) rfl (by kernel_rfl) (by kernel_rfl) (by kernel_rfl) (fun _ _ _ h => h) (Or.inl ⟨by rfl, ?yq33⟩) (by assumption) ?rq33
          case yq33 => (intro wq hSw; (try simp only [zq1, zq2, zq3]); go_simp; (try with_reducible rfl); all_goals (try omega))
          case rq33 =>
          try simp only [Act.put, zq4, zq5, zq6, zq1, zq2, zq3]
          refine wpAnyH_done (by kernel_rfl) ?_ _
          clear hHeld
          go_wp2_with fail
          go_roundw
          case rel => exact ⟨i + 1, rs, by omega, .inl (by omega), by go_num, HJ.out.done hji (.inl rfl), HRBr.out.turn (Turn.refl (fun _ => False) wr).drew id, HTr.out.drew⟩
          case measure => simp [intOf]; omega
    · have hd1 : decide ((i : Int) < (n : Int)) = false := decide_eq_false (by omega)
      go_wp2_with fail
      go_end0
      exact ⟨⟨_, rfl⟩, rs, ⟨HI.out.len, HI.out.perm, fun p q h1 h2 => HI.out.srt p q h1 (by omega)⟩, HRBr.out, HTr.out⟩
theorem klen64_0 (w : World) : Calls Tryz.prog 96 #[.int .u64 0] w fun e w' => e = .returned (.int .i64 0) ∧ w' = w := by
  go_enter Tryz.func96, Tryz.ntmps96
  go_wp2_with fail
  go_ret
  exact ⟨by kernel_rfl, rfl⟩
theorem klen64_1 (w : World) : Calls Tryz.prog 96 #[.int .u64 1] w fun e w' => e = .returned (.int .i64 1) ∧ w' = w := by
  go_enter Tryz.func96, Tryz.ntmps96
  go_wp2_with fail
  go_ret
  exact ⟨by kernel_rfl, rfl⟩
theorem klen64_2 (w : World) : Calls Tryz.prog 96 #[.int .u64 2] w fun e w' => e = .returned (.int .i64 2) ∧ w' = w := by
  go_enter Tryz.func96, Tryz.ntmps96
  go_wp2_with fail
  go_ret
  exact ⟨by kernel_rfl, rfl⟩
theorem klen64_3 (w : World) : Calls Tryz.prog 96 #[.int .u64 3] w fun e w' => e = .returned (.int .i64 2) ∧ w' = w := by
  go_enter Tryz.func96, Tryz.ntmps96
  go_wp2_with fail
  go_ret
  exact ⟨by kernel_rfl, rfl⟩
theorem klen64_4 (w : World) : Calls Tryz.prog 96 #[.int .u64 4] w fun e w' => e = .returned (.int .i64 3) ∧ w' = w := by
  go_enter Tryz.func96, Tryz.ntmps96
  go_wp2_with fail
  go_ret
  exact ⟨by kernel_rfl, rfl⟩
theorem klen64_5 (w : World) : Calls Tryz.prog 96 #[.int .u64 5] w fun e w' => e = .returned (.int .i64 3) ∧ w' = w := by
  go_enter Tryz.func96, Tryz.ntmps96
  go_wp2_with fail
  go_ret
  exact ⟨by kernel_rfl, rfl⟩
theorem klen64_6 (w : World) : Calls Tryz.prog 96 #[.int .u64 6] w fun e w' => e = .returned (.int .i64 3) ∧ w' = w := by
  go_enter Tryz.func96, Tryz.ntmps96
  go_wp2_with fail
  go_ret
  exact ⟨by kernel_rfl, rfl⟩
theorem klen64_7 (w : World) : Calls Tryz.prog 96 #[.int .u64 7] w fun e w' => e = .returned (.int .i64 3) ∧ w' = w := by
  go_enter Tryz.func96, Tryz.ntmps96
  go_wp2_with fail
  go_ret
  exact ⟨by kernel_rfl, rfl⟩
theorem klen64_8 (w : World) : Calls Tryz.prog 96 #[.int .u64 8] w fun e w' => e = .returned (.int .i64 4) ∧ w' = w := by
  go_enter Tryz.func96, Tryz.ntmps96
  go_wp2_with fail
  go_ret
  exact ⟨by kernel_rfl, rfl⟩
theorem klen64_9 (w : World) : Calls Tryz.prog 96 #[.int .u64 9] w fun e w' => e = .returned (.int .i64 4) ∧ w' = w := by
  go_enter Tryz.func96, Tryz.ntmps96
  go_wp2_with fail
  go_ret
  exact ⟨by kernel_rfl, rfl⟩
theorem klen64_10 (w : World) : Calls Tryz.prog 96 #[.int .u64 10] w fun e w' => e = .returned (.int .i64 4) ∧ w' = w := by
  go_enter Tryz.func96, Tryz.ntmps96
  go_wp2_with fail
  go_ret
  exact ⟨by kernel_rfl, rfl⟩
theorem klen64_11 (w : World) : Calls Tryz.prog 96 #[.int .u64 11] w fun e w' => e = .returned (.int .i64 4) ∧ w' = w := by
  go_enter Tryz.func96, Tryz.ntmps96
  go_wp2_with fail
  go_ret
  exact ⟨by kernel_rfl, rfl⟩
theorem klen64_12 (w : World) : Calls Tryz.prog 96 #[.int .u64 12] w fun e w' => e = .returned (.int .i64 4) ∧ w' = w := by
  go_enter Tryz.func96, Tryz.ntmps96
  go_wp2_with fail
  go_ret
  exact ⟨by kernel_rfl, rfl⟩
theorem klen64_any (n : Nat) (h : n ≤ 12) (w : World) : Calls Tryz.prog 96 #[.int .u64 (n : Int)] w fun e w' => (∃ r, e = .returned (.int .i64 r)) ∧ w' = w := by
  rcases (by omega : n = 0 ∨ n = 1 ∨ n = 2 ∨ n = 3 ∨ n = 4 ∨ n = 5 ∨ n = 6 ∨ n = 7 ∨ n = 8 ∨ n = 9 ∨ n = 10 ∨ n = 11 ∨ n = 12) with rfl | rfl | rfl | rfl | rfl | rfl | rfl | rfl | rfl | rfl | rfl | rfl | rfl
  · exact (klen64_0 w).mono (fun e w1 h => ⟨⟨_, h.1⟩, h.2⟩)
  · exact (klen64_1 w).mono (fun e w1 h => ⟨⟨_, h.1⟩, h.2⟩)
  · exact (klen64_2 w).mono (fun e w1 h => ⟨⟨_, h.1⟩, h.2⟩)
  · exact (klen64_3 w).mono (fun e w1 h => ⟨⟨_, h.1⟩, h.2⟩)
  · exact (klen64_4 w).mono (fun e w1 h => ⟨⟨_, h.1⟩, h.2⟩)
  · exact (klen64_5 w).mono (fun e w1 h => ⟨⟨_, h.1⟩, h.2⟩)
  · exact (klen64_6 w).mono (fun e w1 h => ⟨⟨_, h.1⟩, h.2⟩)
  · exact (klen64_7 w).mono (fun e w1 h => ⟨⟨_, h.1⟩, h.2⟩)
  · exact (klen64_8 w).mono (fun e w1 h => ⟨⟨_, h.1⟩, h.2⟩)
  · exact (klen64_9 w).mono (fun e w1 h => ⟨⟨_, h.1⟩, h.2⟩)
  · exact (klen64_10 w).mono (fun e w1 h => ⟨⟨_, h.1⟩, h.2⟩)
  · exact (klen64_11 w).mono (fun e w1 h => ⟨⟨_, h.1⟩, h.2⟩)
  · exact (klen64_12 w).mono (fun e w1 h => ⟨⟨_, h.1⟩, h.2⟩)
theorem klen_any (n : Nat) (h : n ≤ 12) (w : World) : Calls Tryz.prog 67 #[.int .u64 (n : Int)] w fun e w' => (∃ r, e = .returned (.int .i64 r)) ∧ w' = w := by
  go_enter Tryz.func67, Tryz.ntmps67
  go_wp2_with fail
  refine (klen64_any n h w).mono ?_
  rintro e w1 ⟨⟨r, rfl⟩, h9⟩
  rw [h9]
  go_wp2_with fail
  go_ret
  exact ⟨⟨r, rfl⟩, rfl⟩
def KStPost (w : World) (g n : Nat) (rs0 : List Ky) (ex : List Value) (e : Ending) (w' : World) : Prop := (∃ v, e = .returned v) ∧ ∃ rs, InsI rs0 rs n n ∧ KBk w' g rs ex ∧ Turn (fun k => k = g) w w'
set_option maxHeartbeats 1600000 in
theorem kpdq_any (w : World) (g c n : Nat) (r : Int) (rs0 : List Ky) (ex : List Value) (h : KBk w g rs0 ex) (hl : rs0.length = n) (hn12 : n ≤ 12) (hnc : n ≤ c) : Calls Tryz.prog 66 #[.slice (some ⟨g, 0, none⟩) n c, .int .i64 0, .int .i64 (n : Int), .int .i64 r, .func (.func 35) #[] #[]] w (KStPost w g n rs0 ex) := by
  have hd : decide ((n : Int) ≤ 12) = true := decide_eq_true (by omega)
  have hw : IntKind.i64.wrap (n : Int) = (n : Int) := by rw [IntKind.wrap_i64]; omega
  have hw2 : IntKind.i64.wrap ((n : Int) - 0) = (n : Int) := by rw [IntKind.wrap_i64]; omega
  have HI := Lib.hid (kins_any w g c n rs0 ex h hl hn12 hnc)
  clear h hl
  go_enter Tryz.func66, Tryz.ntmps66
  go_wp2_with fail
  refine wp_loop_once ?_
  go_wp2_with fail
  refine HI.out.mono ?_
  rintro e w1 ⟨⟨v, rfl⟩, rs, h1, h2, h3⟩
  have H1 := Lib.hid h1
  have H2 := Lib.hid h2
  have H3 := Lib.hid h3
  clear h1 h2 h3
  go_wp2_with fail
  refine bodyPost_ret (results_none rfl _ _ _) rfl ?_
  exact ⟨⟨_, rfl⟩, rs, H1.out, H2.out, H3.out⟩
theorem ksort_any (w : World) (g c n : Nat) (rs0 : List Ky) (ex : List Value) (h : KBk w g rs0 ex) (hl : rs0.length = n) (hn12 : n ≤ 12) (hnc : n ≤ c) : Calls Tryz.prog 34 #[.slice (some ⟨g, 0, none⟩) n c, .func (.func 35) #[] #[]] w (KStPost w g n rs0 ex) := by
  have hcv : IntKind.u64.wrap (n : Int) = (n : Int) := by rw [IntKind.wrap_u64]; omega
  have HP := Lib.hid (fun r => kpdq_any w g c n r rs0 ex h hl hn12 hnc)
  clear h hl
  go_enter Tryz.func34, Tryz.ntmps34
  go_wp2_with fail
  refine (klen_any n hn12 w).mono ?_
  rintro e w1 ⟨⟨r, rfl⟩, h9⟩
  rw [h9]
  clear h9 w1
  go_wp2_with fail
  refine (HP.out r).mono ?_
  rintro e w1 ⟨⟨v, rfl⟩, rs, h1, h2, h3⟩
  have H1 := Lib.hid h1
  have H2 := Lib.hid h2
  have H3 := Lib.hid h3
  clear h1 h2 h3
  go_wp2_with fail
  go_end0
  exact ⟨⟨_, rfl⟩, rs, H1.out, H2.out, H3.out⟩
theorem kysV_keys : ∀ xs : List OX, keysV xs = kysV (xs.map fun x => (⟨x.1.2.key⟩ : Ky))
  | [] => rfl
  | x :: xs => by
    have := kysV_keys xs
    simp only [keysV, kysV, List.flatMap_cons, List.map_cons] at this ⊢
    rw [this]
    rfl
/-- Keys that are put in order. -/
def SortedK (xs : List Ky) (ys : List Value) : Prop := ∃ l : List Ky, ys = kysV l ∧ l.Perm xs ∧ (∀ o ∈ l, o.Ok) ∧ ∀ p q, p < q → q < l.length → cmpK (l.getD p ky0) (l.getD q ky0) ≤ 0
theorem sorts_any (sl : List Ob) (hg : SGood sl) (h12 : nOb sl hg ≤ 12) : Sorts sl hg (SortedK ((objsTo sl hg 48).map fun x => (⟨x.1.2.key⟩ : Ky))) := fun W B lv hrow => by
  obtain ⟨xs, hxs⟩ : ∃ xs, (objsTo sl hg 48).map (fun x => (⟨x.1.2.key⟩ : Ky)) = xs := ⟨_, rfl⟩
  have hok : ∀ o ∈ xs, o.Ok := fun o ho => by
    rw [← hxs] at ho
    obtain ⟨x, _, rfl⟩ := List.mem_map.1 ho
    exact ⟨x.2.2.len, x.2.2.ok⟩
  have hlen : (objsTo sl hg 48).length = xs.length := by rw [← hxs, List.length_map]
  rw [kysV_keys, hxs, hlen] at hrow
  have hn : xs.length ≤ 12 := by rw [← hlen]; exact h12
  rw [hxs, hlen]
  rcases hrow.2 with ⟨rfl, h0⟩ | ⟨g, cap, cur, rfl, hb, hh, hnc, hcm, hcs, ht⟩
  · have hx0 : xs = [] := List.eq_nil_of_length_eq_zero h0
    subst hx0
    refine (sort_nil _ W).mono ?_
    rintro e W' ⟨hv, rfl⟩
    exact ⟨hv, [], ⟨[], rfl, List.Perm.refl _, (fun o ho => by cases ho), (fun p q h1 h2 => by simp at h2)⟩, hrow, Turn.refl _ _⟩
  · have hk : KBk W g xs (cur.toList.drop (xs.length * 32)) := ⟨by rw [hh, ← ht, List.take_append_drop], hok⟩
    refine (ksort_any W g cap xs.length xs _ hk rfl hn hnc).mono ?_
    rintro e W' ⟨hv, rs, hI, hkb, t⟩
    have hrl : rs.length = xs.length := hI.len
    have hperm : rs.Perm xs := by
      have := hI.perm
      rwa [List.take_of_length_le (by omega), List.take_of_length_le (Nat.le_refl _)] at this
    have hvl := hkb.vlen
    refine ⟨hv, kysV rs, ⟨rs, rfl, hperm, hkb.ok, fun p q h1 h2 => hI.srt p q h1 (by omega)⟩, ⟨by omega, .inr ⟨g, cap, _, rfl, hb, hkb.at_, hnc, hcm, ?_, ?_⟩⟩, t.mono (fun q _ e => by subst e; rfl)⟩
    · have hc2 : (kysV xs).length = 32 * xs.length := kysV_len hok
      have hc3 : cur.size = cur.toList.length := by simp
      simp only [List.size_toArray, List.length_append, List.length_drop]
      omega
    · show (kysV rs ++ _).take (xs.length * 32) = _
      rw [List.take_append_of_le_length (by omega), List.take_of_length_le (by omega)]
end Go.Proofs.YtboofamenpcnhaaGreatDoor
