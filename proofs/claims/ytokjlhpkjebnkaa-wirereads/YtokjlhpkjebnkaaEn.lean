/- Own contracts: a chart's bytes. No statement is proved here. -/
import Derived.Test.YtokjlhpkjebnkaaWg
import Derived.Lib.SlBytesConst
namespace Go.Proofs.Ytokjlhpkjebnkaa
set_option maxRecDepth 100000
open Go.RowKit
set_option linter.unusedVariables false
set_option linter.unusedSimpArgs false


def elemB (a : Int) (x : El) : List Int := numB (x.id - a).toNat ++ numB x.kind.toNat ++ numB x.par.toNat ++ numB x.ord.toNat ++ numB x.frm.toNat ++ numB x.to.toNat ++ textB x.name ++ textB x.ev ++ textB x.gd ++ textB x.ac
def elemsB : Int → List El → List Int
  | _, [] => []
  | a, x :: l => elemB a x ++ elemsB x.id l
def lastI : Int → List El → Int
  | a, [] => a
  | _, x :: l => lastI x.id l
theorem elemsB_snoc (x : El) : ∀ (l : List El) (a : Int), elemsB a (l ++ [x]) = elemsB a l ++ elemB (lastI a l) x
  | [], a => by simp [elemsB, lastI]
  | y :: l, a => by simp only [List.cons_append, elemsB, lastI, elemsB_snoc x l y.id, List.append_assoc]
theorem lastI_snoc (x : El) : ∀ (l : List El) (a : Int), lastI a (l ++ [x]) = x.id
  | [], a => rfl
  | y :: l, a => by simp only [List.cons_append, lastI]; exact lastI_snoc x l y.id
/-- A chart's bytes. -/
def bytesE (l : List El) : List Int := [67, 49] ++ numB l.length ++ elemsB 0 l
/-- What an element of a right chart keeps. -/
structure Fine (x : El) : Prop where
  id : 1 ≤ x.id ∧ x.id ≤ 1048576
  par : 0 ≤ x.par ∧ x.par ≤ 1048576
  ord : 0 ≤ x.ord ∧ x.ord ≤ 1048576
  frm : 0 ≤ x.frm ∧ x.frm ≤ 1048576
  to : 0 ≤ x.to ∧ x.to ≤ 1048576
  name : x.name.size ≤ 12
  ev : x.ev.size ≤ 12
  gd : x.gd.size ≤ 12
  ac : x.ac.size ≤ 12
theorem fine_iff {x : El} : fineB x = true ↔ Fine x := by
  constructor
  · intro h
    unfold fineB at h
    rw [Bool.and_eq_true, Bool.and_eq_true, List.all_eq_true, List.all_eq_true] at h
    obtain ⟨h1, h2, h3⟩ := h
    have n := fun k (hk : k < 4) => of_decide_eq_true (h2 k (by simpa using hk))
    have s := fun k (hk : k < 4) => of_decide_eq_true (h3 k (by simpa using hk))
    exact ⟨of_decide_eq_true h1, n 0 (by omega), n 1 (by omega), n 2 (by omega), n 3 (by omega), s 0 (by omega), s 1 (by omega), s 2 (by omega), s 3 (by omega)⟩
  · intro h
    refine fine_all h.id (fun k hk => ?_) (fun k hk => ?_)
    · rcases (by omega : k = 0 ∨ k = 1 ∨ k = 2 ∨ k = 3) with rfl | rfl | rfl | rfl
      · exact decide_eq_true h.par
      · exact decide_eq_true h.ord
      · exact decide_eq_true h.frm
      · exact decide_eq_true h.to
    · rcases (by omega : k = 0 ∨ k = 1 ∨ k = 2 ∨ k = 3) with rfl | rfl | rfl | rfl
      · exact h.name
      · exact h.ev
      · exact h.gd
      · exact h.ac
theorem right_iff {l : List El} : rightE l = true ↔ l.length ≤ 40 ∧ Rises l ∧ ∀ x ∈ l, Fine x := by
  unfold rightE allFine
  rw [Bool.and_eq_true, Bool.and_eq_true, risesB_iff, decide_eq_true_eq, List.all_eq_true]
  constructor
  · rintro ⟨h1, h2, h3⟩; exact ⟨h1, h2, fun x hx => fine_iff.1 (h3 x hx)⟩
  · rintro ⟨h1, h2, h3⟩; exact ⟨h1, h2, fun x hx => fine_iff.2 (h3 x hx)⟩
theorem last_less {l : List El} (hr : Rises l) (hf : ∀ x ∈ l, Fine x) {k : Nat} (hk : k < l.length) : 0 ≤ lastI 0 (l.take k) ∧ lastI 0 (l.take k) < (l.getD k el0).id := by
  cases k with
  | zero =>
    have := (hf _ (getD_mem hk)).id
    simp only [List.take_zero, lastI]; omega
  | succ k =>
    rw [take_snoc l k (by omega), lastI_snoc]
    have h1 := (hf _ (getD_mem (show k < l.length by omega))).id
    have h2 := hr.get (i := k) (j := k + 1) (by omega) hk
    omega
theorem numB_small9 (n : Nat) (h : n < 9223372036854775808) : (numB n).length ≤ 9 := numB_len 8 n (by omega)
theorem elemB_len (a : Int) (x : El) (hk : 0 ≤ x.kind ∧ x.kind ≤ 255) (hx : Fine x) (ha : 0 ≤ a) : (elemB a x).length ≤ 150 := by
  have n := fun (i : Int) (h : i ≤ 1048576) => numB_small9 i.toNat (by omega)
  have t := fun (s : ByteArray) (h : s.size ≤ 12) => (show (textB s).length ≤ 21 from by have := numB_small9 s.size (by omega); simp [textB, sB_len]; omega)
  have h1 := n (x.id - a) (by have := hx.id; omega)
  have h2 := n x.kind (by omega)
  have h3 := n x.par hx.par.2
  have h4 := n x.ord hx.ord.2
  have h5 := n x.frm hx.frm.2
  have h6 := n x.to hx.to.2
  have h7 := t x.name hx.name
  have h8 := t x.ev hx.ev
  have h9 := t x.gd hx.gd
  have h10 := t x.ac hx.ac
  simp only [elemB, List.length_append]
  omega
theorem elemsB_len {l : List El} (hf : ∀ x ∈ l, Fine x) (hk : ∀ x ∈ l, 0 ≤ x.kind ∧ x.kind ≤ 255) : ∀ (a : Int), 0 ≤ a → (elemsB a l).length ≤ 150 * l.length := by
  induction l with
  | nil => intro a _; simp [elemsB]
  | cons x l ih =>
    intro a ha
    have h1 := elemB_len a x (hk x List.mem_cons_self) (hf x List.mem_cons_self) ha
    have h2 := ih (fun y hy => hf y (List.mem_cons_of_mem _ hy)) (fun y hy => hk y (List.mem_cons_of_mem _ hy)) x.id (by have := (hf x List.mem_cons_self).id; omega)
    simp only [elemsB, List.length_append, List.length_cons]
    omega
/-- A pen at work, beside an element. -/
structure EncS (w W : World) (B E : Nat) (x : El) (v : Value) (xs : List Int) : Prop where
  pen : PenIs W w.heap.size B v xs
  turn : Turn (fun _ => False) w W
  big : w.heap.size ≤ B
  ne : ∀ k, v.ownBlock = some k → k ≠ E
  cells : W.rangeAt E 0 x.vals
  lt : E < W.heap.size
  eb : E ≠ B
theorem EncS.post {w W w' : World} {B E : Nat} {x : El} {v : Value} {xs ys : List Int} {e : Ending} (h : EncS w W B E x v xs) (hp : PenPost W w.heap.size B v ys e w') : e = .returned (.pointer (some ⟨B, 0, none⟩)) ∧ ∃ v', EncS w w' B E x v' ys := by
  obtain ⟨he, v', h1, h2, h3⟩ := hp
  refine ⟨he, v', h1, h.turn.trans h3 (fun i hi hc => ?_), h.big, fun k hk hke => ?_, rangeAt_turn h.cells h3 (fun hc => ?_), Nat.lt_of_lt_of_le h.lt h3.size, h.eb⟩
  · rcases hc with rfl | hc
    · have := h.big; omega
    · have := (h.pen.own.lt i hc).1; omega
  · subst hke
    rcases h2 with h2 | ⟨g, h2, hg⟩
    · exact h.ne k (h2.symm.trans hk) rfl
    · rw [hk] at h2; cases h2; have := h.lt; omega
  · rcases hc with hc | hc
    · exact h.eb hc
    · exact h.ne _ hc rfl
theorem EncS.drew {w W : World} {B E : Nat} {x : El} {v : Value} {xs : List Int} (h : EncS w W B E x v xs) : EncS w W.drew B E x v xs := by
  have t := (Turn.refl (fun _ => False) W).drew
  exact ⟨h.pen.turn t id (fun _ _ => id), h.turn.drew, h.big, h.ne, rangeAt_turn h.cells t id, h.lt, h.eb⟩
theorem EncS.num {w W : World} {B E : Nat} {x : El} {v : Value} {xs : List Int} (h : EncS w W B E x v xs) (i : Int) (hi : 0 ≤ i ∧ i ≤ 9000000000000000000) (hl : xs.length ≤ 50000) : Calls Try.prog 42 #[.pointer (some ⟨B, 0, none⟩), .int .i64 i] W fun e w' => e = .returned (.pointer (some ⟨B, 0, none⟩)) ∧ ∃ v', EncS w w' B E x v' (xs ++ numB i.toNat) :=
  (pen_num_at i i.toNat (by omega) w.heap.size B v xs W (by omega) (by have := numB_small9 i.toNat (by omega); omega) h.turn.size h.pen).mono fun e w' hp => h.post hp
theorem EncS.text {w W : World} {B E : Nat} {x : El} {v : Value} {xs : List Int} (h : EncS w W B E x v xs) (s : ByteArray) (hs : s.size ≤ 12) (hl : xs.length ≤ 50000) : Calls Try.prog 43 #[.pointer (some ⟨B, 0, none⟩), .string s] W fun e w' => e = .returned (.pointer (some ⟨B, 0, none⟩)) ∧ ∃ v', EncS w w' B E x v' (xs ++ textB s) :=
  (pen_text w.heap.size B s v xs W (by omega) (by omega) h.turn.size h.pen).mono fun e w' hp => h.post hp
def cells11 (w : World) (X : Nat) (x : El) : Prop := w.cell? ⟨X, 0, none⟩ = some (.int .i64 x.id) ∧ w.cell? ⟨X, 1, none⟩ = some (.int .u8 x.kind) ∧ w.cell? ⟨X, 2, none⟩ = some (.int .i64 x.par) ∧ w.cell? ⟨X, 3, none⟩ = some (.int .i64 x.ord) ∧ w.cell? ⟨X, 4, none⟩ = some (.string x.name) ∧ w.cell? ⟨X, 5, none⟩ = some (.int .i64 x.frm) ∧ w.cell? ⟨X, 6, none⟩ = some (.int .i64 x.to) ∧ w.cell? ⟨X, 7, none⟩ = some (.string x.ev) ∧ w.cell? ⟨X, 8, none⟩ = some (.string x.gd) ∧ w.cell? ⟨X, 9, none⟩ = some (.string x.ac)
theorem cells11_of {w : World} {X : Nat} {x : El} (h : w.rangeAt X 0 x.vals) : cells11 w X x := by
  obtain ⟨c0, c2, c3, c4, c5, c6, c7, c8, c9⟩ := cells10_of h
  have c1 := h 1 _ rfl
  rw [Nat.zero_add] at c1
  exact ⟨c0, c1, c2, c3, c4, c5, c6, c7, c8, c9⟩
theorem pen_step {w W w' : World} {B : Nat} {v : Value} {xs ys : List Int} {e : Ending} (hp : PenIs W w.heap.size B v xs) (t : Turn (fun _ => False) w W) (hB : w.heap.size ≤ B) (h : PenPost W w.heap.size B v ys e w') : e = .returned (.pointer (some ⟨B, 0, none⟩)) ∧ ∃ v', PenIs w' w.heap.size B v' ys ∧ Turn (fun _ => False) w w' := by
  obtain ⟨he, v', h1, h2, h3⟩ := h
  refine ⟨he, v', h1, t.trans h3 (fun i hi hc => ?_)⟩
  rcases hc with rfl | hc
  · omega
  · have := (hp.own.lt i hc).1; omega
/-- The two bytes ahead of all, as a slice that can't be written. -/
theorem mark_src (w : World) : Src (w.alloc (.cells #[.int .u8 67, .int .u8 49] 5 (2, 3))) (.slice (some ⟨w.heap.size, 0, none⟩) 2 2) [67, 49] := by
  refine .inl (.inr ⟨w.heap.size, 0, 2, rfl, by decide, fun i hi => ?_⟩)
  have hn := heap_alloc_new w (.cells #[.int .u8 67, .int .u8 49] 5 (2, 3))
  rw [cell_of_row _ _ _ _ 5 (2, 3) hn]
  have : i < 2 := by simpa using hi
  rcases (by omega : i = 0 ∨ i = 1) with rfl | rfl <;> rfl
theorem conv_mark (w : World) : (convert 49 49 (.slice (some ⟨w.heap.size, 0, none⟩) 2 2)).run Try.prog (w.alloc (.cells #[.int .u8 67, .int .u8 49] 5)) = .ok (.slice (some ⟨w.heap.size, 0, none⟩) 2 2) (w.alloc (.cells #[.int .u8 67, .int .u8 49] 5 (2, 3))) := Lib.run_convert_bytes_const w 49 5 _ 2 2 Try.underlying49 Try.underlying5
theorem exec_mark (ev : Operand → Value) (op : Oper) (x : Operand) (ho : op.op = .convert 49 49 x) (w : World) (hx : ev x = .slice (some ⟨w.heap.size, 0, none⟩) 2 2) : (execOp ev op).run Try.prog (w.alloc (.cells #[.int .u8 67, .int .u8 49] 5)) = .ok (.value (.slice (some ⟨w.heap.size, 0, none⟩) 2 2)) (w.alloc (.cells #[.int .u8 67, .int .u8 49] 5 (2, 3))) := by
  unfold execOp
  simp only [ho, hx, Sem.run_bind, conv_mark, Result.andThen_ok, Sem.run_pure]
def EncPost (w : World) (l : List El) (e : Ending) (w' : World) : Prop := Turn (fun _ => False) w w' ∧ ((rightE l = false ∧ e = .returned (.tuple #[.slice none 0 0, .int .i64 1])) ∨ (rightE l = true ∧ ∃ v, e = .returned (.tuple #[v, .int .i64 0]) ∧ w'.ownsRow w.heap.size 5 1 v (bytesE l).length ((bytesE l).map (Value.int .u8))))
set_option maxHeartbeats 16000000 in
theorem encode_any (w : World) (v : Value) (l : List El) (hv : RowV w v l) (hok : ∀ x ∈ l, 0 ≤ x.kind ∧ x.kind ≤ 255) (hb : l.length ≤ 9223372036854775807) : Calls Try.prog 29 #[v] w (EncPost w l) := by
  obtain ⟨la, lc, rfl⟩ := hv.form
  obtain ⟨n, hn⟩ : ∃ n, l.length = n := ⟨_, rfl⟩
  rw [hn] at hv hb
  simp only [hn]
  have HV := Lib.hid hv
  have HN := Lib.hid hn
  have HOK := Lib.hid hok
  clear hv hn hok
  go_enter Try.func29, Try.ntmps29
  go_wp2_with fail
  refine (right_any w _ l HV.out (by rw [HN.out]; omega)).mono ?_
  rintro e w2 ⟨rfl, t2⟩
  have T2 := Lib.hid t2
  clear t2
  cases hr : rightE l
  · have HR := Lib.hid hr
    clear hr
    go_wp2_with fail
    go_ret2
    exact ⟨T2.out, .inl ⟨HR.out, rfl⟩⟩
  · have HR := Lib.hid hr
    obtain ⟨hn40, hri, hfi⟩ := right_iff.1 hr
    rw [HN.out] at hn40
    have HRI := Lib.hid hri
    have HFI := Lib.hid hfi
    clear hr hri hfi
    have hpn := pen_new w2 w.heap.size
    have tp0 := T2.out.alloc (.cells #[.slice none 0 0] 76)
    obtain ⟨B, hB⟩ : ∃ B, w2.heap.size = B := ⟨_, rfl⟩
    obtain ⟨w3, hw3⟩ : ∃ w3, w2.alloc (.cells #[.slice none 0 0] 76) = w3 := ⟨_, rfl⟩
    rw [hw3] at hpn tp0
    rw [hB] at hpn
    have hBw : w.heap.size ≤ B := by have := T2.out.size; omega
    have hms := mark_src w3
    have t4 : Turn (fun _ => False) w3 (w3.alloc (.cells #[.int .u8 67, .int .u8 49] 5 (2, 3))) := (Turn.refl _ w3).alloc _
    obtain ⟨G, hG⟩ : ∃ G, w3.heap.size = G := ⟨_, rfl⟩
    have hcv : ∀ ev op x, op.op = .convert 49 49 x → ev x = .slice (some ⟨G, 0, none⟩) 2 2 → (execOp ev op).run Try.prog (w3.alloc (.cells #[.int .u8 67, .int .u8 49] 5)) = .ok (.value (.slice (some ⟨G, 0, none⟩) 2 2)) (w3.alloc (.cells #[.int .u8 67, .int .u8 49] 5 (2, 3))) := fun ev op x ho hx => by rw [← hG] at hx ⊢; exact exec_mark ev op x ho w3 hx
    obtain ⟨w4, hw4⟩ : ∃ w4, w3.alloc (.cells #[.int .u8 67, .int .u8 49] 5 (2, 3)) = w4 := ⟨_, rfl⟩
    rw [hw4] at hms t4 hcv
    rw [hG] at hms
    have HP4 := Lib.hid (hpn.turn t4 id (fun _ _ => id))
    have HT4 := Lib.hid (tp0.trans t4 (fun _ _ => id))
    have HMS := Lib.hid hms
    have HCV := Lib.hid hcv
    clear hpn tp0 hms t4 hcv hw4
    go_wp2_with (with_reducible (show wpList _ _ _ (Oper.mk (some 13) _ _ _ _ _ :: _) _ _); refine still ?_)
    refine list_exec rfl _ _ (HCV.out _ _ (.tmp 12) rfl rfl) ?_
    clear hw3 hG hB
    go_wp2_with fail
    refine (pen_raw w.heap.size B _ _ [] [67, 49] w4 (by decide) HT4.out.size HP4.out HMS.out).mono ?_
    intro e w5 hp5
    obtain ⟨rfl, v5, hp5, t5⟩ := pen_step HP4.out HT4.out hBw hp5
    have HP5 := Lib.hid hp5
    have HT5 := Lib.hid t5
    clear hp5 t5
    go_wp2_with fail
    refine (pen_num w.heap.size B n v5 ([] ++ [67, 49]) w5 (by omega) (by have := numB_small9 n (by omega); simp; omega) HT5.out.size HP5.out).mono ?_
    intro e w6 hp6
    obtain ⟨rfl, v6, hp6, t6⟩ := pen_step HP5.out HT5.out hBw hp6
    have HP6 := Lib.hid hp6
    have HT6 := Lib.hid t6
    clear hp6 t6
    go_wp2_with fail
    go_loopw [5, 20] (fun av iv wr => ∃ (k : Nat) (pv : Value), k ≤ n ∧ iv = .int .i64 (k : Int) ∧ av = .int .i64 (lastI 0 (l.take k)) ∧ PenIs wr w.heap.size B pv ([67, 49] ++ numB n ++ elemsB 0 (l.take k)) ∧ Turn (fun _ => False) w wr) (fun _ iv _ => n - (intOf iv).toNat)
    case atStart => exact ⟨0, v6, Nat.zero_le _, rfl, rfl, by simpa [elemsB] using HP6.out, HT6.out⟩
    case round =>
      obtain ⟨k, pv, hk, rfl, rfl, hp, htr⟩ := hrel
      have HP := Lib.hid hp
      have HTR := Lib.hid htr
      clear hp htr
      by_cases hlt : k < n
      · have hkl : k < l.length := by rw [HN.out]; exact hlt
        have hxm := getD_mem hkl
        have hll := last_less HRI.out HFI.out hkl
        have hes := elemsB_snoc (l.getD k el0) (l.take k) 0
        have hls := lastI_snoc (l.getD k el0) (l.take k) 0
        rw [← take_snoc l k hkl] at hes hls
        have hel := elemsB_len (l := l.take k) (fun x hx => HFI.out x (List.mem_of_mem_take hx)) (fun x hx => HOK.out x (List.mem_of_mem_take hx)) 0 (Int.le_refl 0)
        have hfx := HFI.out _ hxm
        have hkx := HOK.out _ hxm
        obtain ⟨g, o, rfl, hc, hs1⟩ := (HV.out.turn HTR.out (fun _ _ => id)).one HN.out k hlt
        obtain ⟨a, ha⟩ : ∃ a, lastI 0 (l.take k) = a := ⟨_, rfl⟩
        obtain ⟨x, hx⟩ : ∃ x, l.getD k el0 = x := ⟨_, rfl⟩
        rw [hx] at hll hes hls hfx hkx hs1
        rw [ha] at hll hes ⊢
        have hlen : ([67, 49] ++ numB n ++ elemsB 0 (l.take k)).length ≤ 7000 := by
          have := numB_small9 n (by omega)
          have : (l.take k).length ≤ k := List.length_take_le _ _
          simp only [List.length_append, List.length_cons, List.length_nil]
          omega
        obtain ⟨XS, hXS⟩ : ∃ XS, [67, 49] ++ numB n ++ elemsB 0 (l.take k) = XS := ⟨_, rfl⟩
        have hnext : [67, 49] ++ numB n ++ elemsB 0 (l.take (k + 1)) = XS ++ elemB a x := by rw [hes, ← List.append_assoc, hXS]
        rw [hXS] at hlen
        have HPX := Lib.hid (show PenIs wr w.heap.size B pv XS from by rw [← hXS]; exact HP.out)
        have HNX := Lib.hid hnext
        have HLS := Lib.hid hls
        have HFX := Lib.hid hfx
        have HKX := Lib.hid hkx
        have HS1 := Lib.hid hs1
        have HLL := Lib.hid hll
        have hw0 : IntKind.i64.wrap (x.id - a) = x.id - a := by have := hfx.id; rw [IntKind.wrap_i64]; omega
        have hw1 : IntKind.i64.wrap x.kind = x.kind := by rw [IntKind.wrap_i64]; omega
        have gk : (0 : Int) ≤ (k : Int) ∧ (k : Int) < (n : Int) := by omega
        have dk : decide ((k : Int) < (n : Int)) = true := decide_eq_true (by omega)
        clear hll hes hls hfx hkx hs1 hel hxm hkl ha hx hXS hnext
        have hbb := box_alloc wr 24 el0.vals
        obtain ⟨E, hE⟩ : ∃ E, wr.heap.size = E := ⟨_, rfl⟩
        obtain ⟨wz, hwz⟩ : ∃ wz, wr.alloc (.cells el0.vals.toArray 24) = wz := ⟨_, rfl⟩
        have hx0 : ∀ ev op, op.op = .alloc 24 → (execOp ev op).run Try.prog wr = .ok (.value (.pointer (some ⟨E, 0, none⟩))) wz := fun ev op ho => by rw [← hwz, ← hE]; exact exec_zero24 ev op ho _
        rw [hwz] at hbb
        have hhh := hbb.heap
        rw [hE] at hhh
        have HX0 := Lib.hid hx0
        have HBB := Lib.hid hbb
        have HHB := Lib.hid hhh
        have HEE := Lib.hid hE
        clear hbb hE hwz hx0 hhh
        go_wp2_with (with_reducible (show wpList _ _ _ (Oper.mk (some 23) (.load 24 (.tmp 22)) _ _ _ _ :: _) _ _); refine still ?_)
        refine wpList_load_mid rfl 24 (.tmp 22) rfl g (o + k * 10) rfl x.vals _ HS1.out Try.underlying24 rfl el_info ?_
        go_wp2_with (with_reducible (show wpList _ _ _ (Oper.mk (some 7) (.alloc 24) _ _ _ _ :: _) _ _); refine still ?_)
        refine list_exec rfl _ _ (HX0.out _ _ rfl) ?_
        go_wp2_with (with_reducible (show wpList _ _ _ (Oper.mk none (.store 24 (.tmp 7) (.tmp 23)) _ _ _ _ :: _) _ _); refine still ?_)
        refine list_put wz E 24 el0.vals x.vals HHB.out rfl x.vals_one el_info rfl (.tmp 7) (.tmp 23) rfl rfl rfl (fun wa h2 t2 => ?_)
        have ta := HBB.out.turn.trans t2 (fun q hq e => by have := HEE.out; omega)
        have hea : EncS w wa B E x pv XS := by
          have hlt := HPX.out.lt
          have hE := HEE.out
          refine ⟨HPX.out.turn ta id (fun _ _ => id), HTR.out.trans ta (fun _ _ => id), hBw, fun q hq => by have := (HPX.out.own.lt q hq).2; omega, range_of h2, ?_, by omega⟩
          exact (Array.getElem?_eq_some_iff.1 h2).1
        have HEA := Lib.hid hea.drew
        clear h2 t2 ta hea
        go_wp2_with fail
        refine wp_region_held_drew (S := fun wq => wq.rangeAt E 0 x.vals) (by kernel_rfl) HEA.out.cells (fun hHeld => ?_)
        refine wpAnyH_take (i := 0) (v := .pointer (some ⟨B, 0, none⟩)) rfl (by kernel_rfl) (by kernel_rfl) (by kernel_rfl) (fun _ _ _ h => h) (Or.inl ⟨by rfl, ?yq1⟩) (by assumption) ?rq1
        case yq1 => (intro wq hSw; (try simp only [List.getElem_toArray, List.getElem_cons_zero, List.getElem_cons_succ]); go_simp; (try with_reducible rfl); all_goals (try omega))
        case rq1 =>
        try simp only [Act.put, List.setIfInBounds_toArray, List.set_cons_zero, List.set_cons_succ, List.getElem_toArray, List.getElem_cons_zero, List.getElem_cons_succ]
        refine wpAnyH_take (i := 1) (v := .pointer (some ⟨E, 0, none⟩)) rfl (by kernel_rfl) (by kernel_rfl) (by kernel_rfl) (fun _ _ _ h => h) (Or.inl ⟨by rfl, ?yq2⟩) (by assumption) ?rq2
        case yq2 => (intro wq hSw; (try simp only [List.getElem_toArray, List.getElem_cons_zero, List.getElem_cons_succ]); go_simp; (try with_reducible rfl); all_goals (try omega))
        case rq2 =>
        try simp only [Act.put, List.setIfInBounds_toArray, List.set_cons_zero, List.set_cons_succ, List.getElem_toArray, List.getElem_cons_zero, List.getElem_cons_succ]
        refine wpAnyH_take (i := 2) (v := .int .i64 x.id) rfl (by kernel_rfl) (by kernel_rfl) (by kernel_rfl) (fun _ _ _ h => h) (Or.inl ⟨by rfl, ?yq3⟩) (by assumption) ?rq3
        case yq3 => (intro wq hSw; obtain ⟨c0, c1, c2, c3, c4, c5, c6, c7, c8, c9⟩ := cells11_of hSw; (try simp only [List.getElem_toArray, List.getElem_cons_zero, List.getElem_cons_succ]); go_simp; (try with_reducible rfl); all_goals (try omega))
        case rq3 =>
        try simp only [Act.put, List.setIfInBounds_toArray, List.set_cons_zero, List.set_cons_succ, List.getElem_toArray, List.getElem_cons_zero, List.getElem_cons_succ]
        refine wpAnyH_take (i := 3) (v := .int .i64 a) rfl (by kernel_rfl) (by kernel_rfl) (by kernel_rfl) (fun _ _ _ h => h) (Or.inl ⟨by rfl, ?yq4⟩) (by assumption) ?rq4
        case yq4 => (intro wq hSw; (try simp only [List.getElem_toArray, List.getElem_cons_zero, List.getElem_cons_succ]); go_simp; (try with_reducible rfl); all_goals (try omega))
        case rq4 =>
        try simp only [Act.put, List.setIfInBounds_toArray, List.set_cons_zero, List.set_cons_succ, List.getElem_toArray, List.getElem_cons_zero, List.getElem_cons_succ]
        refine wpAnyH_take (i := 4) (v := .int .i64 (x.id - a)) rfl (by kernel_rfl) (by kernel_rfl) (by kernel_rfl) (fun _ _ _ h => h) (Or.inl ⟨by rfl, ?yq5⟩) (by assumption) ?rq5
        case yq5 => (intro wq hSw; (try simp only [List.getElem_toArray, List.getElem_cons_zero, List.getElem_cons_succ]); go_simp; (try with_reducible rfl); all_goals (try omega))
        case rq5 =>
        try simp only [Act.put, List.setIfInBounds_toArray, List.set_cons_zero, List.set_cons_succ, List.getElem_toArray, List.getElem_cons_zero, List.getElem_cons_succ]
        refine wpAnyH_take (i := 6) (v := .pointer (some ⟨E, 1, none⟩)) rfl (by kernel_rfl) (by kernel_rfl) (by kernel_rfl) (fun _ _ _ h => h) (Or.inl ⟨by rfl, ?yq6⟩) (by assumption) ?rq6
        case yq6 => (intro wq hSw; (try simp only [List.getElem_toArray, List.getElem_cons_zero, List.getElem_cons_succ]); go_simp; (try with_reducible rfl); all_goals (try omega))
        case rq6 =>
        try simp only [Act.put, List.setIfInBounds_toArray, List.set_cons_zero, List.set_cons_succ, List.getElem_toArray, List.getElem_cons_zero, List.getElem_cons_succ]
        refine wpAnyH_take (i := 7) (v := .int .u8 x.kind) rfl (by kernel_rfl) (by kernel_rfl) (by kernel_rfl) (fun _ _ _ h => h) (Or.inl ⟨by rfl, ?yq7⟩) (by assumption) ?rq7
        case yq7 => (intro wq hSw; obtain ⟨c0, c1, c2, c3, c4, c5, c6, c7, c8, c9⟩ := cells11_of hSw; (try simp only [List.getElem_toArray, List.getElem_cons_zero, List.getElem_cons_succ]); go_simp; (try with_reducible rfl); all_goals (try omega))
        case rq7 =>
        try simp only [Act.put, List.setIfInBounds_toArray, List.set_cons_zero, List.set_cons_succ, List.getElem_toArray, List.getElem_cons_zero, List.getElem_cons_succ]
        refine wpAnyH_take (i := 8) (v := .int .i64 x.kind) rfl (by kernel_rfl) (by kernel_rfl) (by kernel_rfl) (fun _ _ _ h => h) (Or.inl ⟨by rfl, ?yq8⟩) (by assumption) ?rq8
        case yq8 => (intro wq hSw; (try simp only [List.getElem_toArray, List.getElem_cons_zero, List.getElem_cons_succ]); go_simp; (try with_reducible rfl); all_goals (try omega))
        case rq8 =>
        try simp only [Act.put, List.setIfInBounds_toArray, List.set_cons_zero, List.set_cons_succ, List.getElem_toArray, List.getElem_cons_zero, List.getElem_cons_succ]
        refine wpAnyH_take (i := 10) (v := .pointer (some ⟨E, 2, none⟩)) rfl (by kernel_rfl) (by kernel_rfl) (by kernel_rfl) (fun _ _ _ h => h) (Or.inl ⟨by rfl, ?yq9⟩) (by assumption) ?rq9
        case yq9 => (intro wq hSw; (try simp only [List.getElem_toArray, List.getElem_cons_zero, List.getElem_cons_succ]); go_simp; (try with_reducible rfl); all_goals (try omega))
        case rq9 =>
        try simp only [Act.put, List.setIfInBounds_toArray, List.set_cons_zero, List.set_cons_succ, List.getElem_toArray, List.getElem_cons_zero, List.getElem_cons_succ]
        refine wpAnyH_take (i := 11) (v := .int .i64 x.par) rfl (by kernel_rfl) (by kernel_rfl) (by kernel_rfl) (fun _ _ _ h => h) (Or.inl ⟨by rfl, ?yq10⟩) (by assumption) ?rq10
        case yq10 => (intro wq hSw; obtain ⟨c0, c1, c2, c3, c4, c5, c6, c7, c8, c9⟩ := cells11_of hSw; (try simp only [List.getElem_toArray, List.getElem_cons_zero, List.getElem_cons_succ]); go_simp; (try with_reducible rfl); all_goals (try omega))
        case rq10 =>
        try simp only [Act.put, List.setIfInBounds_toArray, List.set_cons_zero, List.set_cons_succ, List.getElem_toArray, List.getElem_cons_zero, List.getElem_cons_succ]
        refine wpAnyH_take (i := 13) (v := .pointer (some ⟨E, 3, none⟩)) rfl (by kernel_rfl) (by kernel_rfl) (by kernel_rfl) (fun _ _ _ h => h) (Or.inl ⟨by rfl, ?yq11⟩) (by assumption) ?rq11
        case yq11 => (intro wq hSw; (try simp only [List.getElem_toArray, List.getElem_cons_zero, List.getElem_cons_succ]); go_simp; (try with_reducible rfl); all_goals (try omega))
        case rq11 =>
        try simp only [Act.put, List.setIfInBounds_toArray, List.set_cons_zero, List.set_cons_succ, List.getElem_toArray, List.getElem_cons_zero, List.getElem_cons_succ]
        refine wpAnyH_take (i := 14) (v := .int .i64 x.ord) rfl (by kernel_rfl) (by kernel_rfl) (by kernel_rfl) (fun _ _ _ h => h) (Or.inl ⟨by rfl, ?yq12⟩) (by assumption) ?rq12
        case yq12 => (intro wq hSw; obtain ⟨c0, c1, c2, c3, c4, c5, c6, c7, c8, c9⟩ := cells11_of hSw; (try simp only [List.getElem_toArray, List.getElem_cons_zero, List.getElem_cons_succ]); go_simp; (try with_reducible rfl); all_goals (try omega))
        case rq12 =>
        try simp only [Act.put, List.setIfInBounds_toArray, List.set_cons_zero, List.set_cons_succ, List.getElem_toArray, List.getElem_cons_zero, List.getElem_cons_succ]
        refine wpAnyH_take (i := 16) (v := .pointer (some ⟨E, 5, none⟩)) rfl (by kernel_rfl) (by kernel_rfl) (by kernel_rfl) (fun _ _ _ h => h) (Or.inl ⟨by rfl, ?yq13⟩) (by assumption) ?rq13
        case yq13 => (intro wq hSw; (try simp only [List.getElem_toArray, List.getElem_cons_zero, List.getElem_cons_succ]); go_simp; (try with_reducible rfl); all_goals (try omega))
        case rq13 =>
        try simp only [Act.put, List.setIfInBounds_toArray, List.set_cons_zero, List.set_cons_succ, List.getElem_toArray, List.getElem_cons_zero, List.getElem_cons_succ]
        refine wpAnyH_take (i := 17) (v := .int .i64 x.frm) rfl (by kernel_rfl) (by kernel_rfl) (by kernel_rfl) (fun _ _ _ h => h) (Or.inl ⟨by rfl, ?yq14⟩) (by assumption) ?rq14
        case yq14 => (intro wq hSw; obtain ⟨c0, c1, c2, c3, c4, c5, c6, c7, c8, c9⟩ := cells11_of hSw; (try simp only [List.getElem_toArray, List.getElem_cons_zero, List.getElem_cons_succ]); go_simp; (try with_reducible rfl); all_goals (try omega))
        case rq14 =>
        try simp only [Act.put, List.setIfInBounds_toArray, List.set_cons_zero, List.set_cons_succ, List.getElem_toArray, List.getElem_cons_zero, List.getElem_cons_succ]
        refine wpAnyH_take (i := 19) (v := .pointer (some ⟨E, 6, none⟩)) rfl (by kernel_rfl) (by kernel_rfl) (by kernel_rfl) (fun _ _ _ h => h) (Or.inl ⟨by rfl, ?yq15⟩) (by assumption) ?rq15
        case yq15 => (intro wq hSw; (try simp only [List.getElem_toArray, List.getElem_cons_zero, List.getElem_cons_succ]); go_simp; (try with_reducible rfl); all_goals (try omega))
        case rq15 =>
        try simp only [Act.put, List.setIfInBounds_toArray, List.set_cons_zero, List.set_cons_succ, List.getElem_toArray, List.getElem_cons_zero, List.getElem_cons_succ]
        refine wpAnyH_take (i := 20) (v := .int .i64 x.to) rfl (by kernel_rfl) (by kernel_rfl) (by kernel_rfl) (fun _ _ _ h => h) (Or.inl ⟨by rfl, ?yq16⟩) (by assumption) ?rq16
        case yq16 => (intro wq hSw; obtain ⟨c0, c1, c2, c3, c4, c5, c6, c7, c8, c9⟩ := cells11_of hSw; (try simp only [List.getElem_toArray, List.getElem_cons_zero, List.getElem_cons_succ]); go_simp; (try with_reducible rfl); all_goals (try omega))
        case rq16 =>
        try simp only [Act.put, List.setIfInBounds_toArray, List.set_cons_zero, List.set_cons_succ, List.getElem_toArray, List.getElem_cons_zero, List.getElem_cons_succ]
        refine wpAnyH_ready (rs := [5]) (by kernel_rfl) (by simp) ?_
        refine AllReadyH.cons rfl (fun K hK => ?_) AllReadyH.nil
        go_simp
        refine (HEA.out.num (x.id - a) (by have := HLL.out; have := HFX.out.id; omega) (by (try simp only [List.length_append]); (try have := numB_small9 (x.id - a).toNat (by have := HFX.out.id; have := HLL.out; omega)); (try have := numB_small9 x.kind.toNat (by have := HKX.out; omega)); (try have := numB_small9 x.par.toNat (by have := HFX.out.par; omega)); (try have := numB_small9 x.ord.toNat (by have := HFX.out.ord; omega)); (try have := numB_small9 x.frm.toNat (by have := HFX.out.frm; omega)); omega)).mono ?_
        rintro r wn0 ⟨rfl, vn0, hn0⟩
        have HN0 := Lib.hid hn0
        clear hn0
        refine hK.out _ _ HN0.out.cells (fun _ => ?_)
        clear hK K
        try simp only [Act.put, List.setIfInBounds_toArray, List.set_cons_zero, List.set_cons_succ, List.getElem_toArray, List.getElem_cons_zero, List.getElem_cons_succ]
        refine wpAnyH_ready (rs := [9]) (by kernel_rfl) (by simp) ?_
        refine AllReadyH.cons rfl (fun K hK => ?_) AllReadyH.nil
        go_simp
        refine (HN0.out.num x.kind (by have := HKX.out; omega) (by (try simp only [List.length_append]); (try have := numB_small9 (x.id - a).toNat (by have := HFX.out.id; have := HLL.out; omega)); (try have := numB_small9 x.kind.toNat (by have := HKX.out; omega)); (try have := numB_small9 x.par.toNat (by have := HFX.out.par; omega)); (try have := numB_small9 x.ord.toNat (by have := HFX.out.ord; omega)); (try have := numB_small9 x.frm.toNat (by have := HFX.out.frm; omega)); omega)).mono ?_
        rintro r wn1 ⟨rfl, vn1, hn1⟩
        have HN1 := Lib.hid hn1
        clear hn1
        refine hK.out _ _ HN1.out.cells (fun _ => ?_)
        clear hK K
        try simp only [Act.put, List.setIfInBounds_toArray, List.set_cons_zero, List.set_cons_succ, List.getElem_toArray, List.getElem_cons_zero, List.getElem_cons_succ]
        refine wpAnyH_ready (rs := [12]) (by kernel_rfl) (by simp) ?_
        refine AllReadyH.cons rfl (fun K hK => ?_) AllReadyH.nil
        go_simp
        refine (HN1.out.num x.par (by have := HFX.out.par; omega) (by (try simp only [List.length_append]); (try have := numB_small9 (x.id - a).toNat (by have := HFX.out.id; have := HLL.out; omega)); (try have := numB_small9 x.kind.toNat (by have := HKX.out; omega)); (try have := numB_small9 x.par.toNat (by have := HFX.out.par; omega)); (try have := numB_small9 x.ord.toNat (by have := HFX.out.ord; omega)); (try have := numB_small9 x.frm.toNat (by have := HFX.out.frm; omega)); omega)).mono ?_
        rintro r wn2 ⟨rfl, vn2, hn2⟩
        have HN2 := Lib.hid hn2
        clear hn2
        refine hK.out _ _ HN2.out.cells (fun _ => ?_)
        clear hK K
        try simp only [Act.put, List.setIfInBounds_toArray, List.set_cons_zero, List.set_cons_succ, List.getElem_toArray, List.getElem_cons_zero, List.getElem_cons_succ]
        refine wpAnyH_ready (rs := [15]) (by kernel_rfl) (by simp) ?_
        refine AllReadyH.cons rfl (fun K hK => ?_) AllReadyH.nil
        go_simp
        refine (HN2.out.num x.ord (by have := HFX.out.ord; omega) (by (try simp only [List.length_append]); (try have := numB_small9 (x.id - a).toNat (by have := HFX.out.id; have := HLL.out; omega)); (try have := numB_small9 x.kind.toNat (by have := HKX.out; omega)); (try have := numB_small9 x.par.toNat (by have := HFX.out.par; omega)); (try have := numB_small9 x.ord.toNat (by have := HFX.out.ord; omega)); (try have := numB_small9 x.frm.toNat (by have := HFX.out.frm; omega)); omega)).mono ?_
        rintro r wn3 ⟨rfl, vn3, hn3⟩
        have HN3 := Lib.hid hn3
        clear hn3
        refine hK.out _ _ HN3.out.cells (fun _ => ?_)
        clear hK K
        try simp only [Act.put, List.setIfInBounds_toArray, List.set_cons_zero, List.set_cons_succ, List.getElem_toArray, List.getElem_cons_zero, List.getElem_cons_succ]
        refine wpAnyH_ready (rs := [18]) (by kernel_rfl) (by simp) ?_
        refine AllReadyH.cons rfl (fun K hK => ?_) AllReadyH.nil
        go_simp
        refine (HN3.out.num x.frm (by have := HFX.out.frm; omega) (by (try simp only [List.length_append]); (try have := numB_small9 (x.id - a).toNat (by have := HFX.out.id; have := HLL.out; omega)); (try have := numB_small9 x.kind.toNat (by have := HKX.out; omega)); (try have := numB_small9 x.par.toNat (by have := HFX.out.par; omega)); (try have := numB_small9 x.ord.toNat (by have := HFX.out.ord; omega)); (try have := numB_small9 x.frm.toNat (by have := HFX.out.frm; omega)); omega)).mono ?_
        rintro r wn4 ⟨rfl, vn4, hn4⟩
        have HN4 := Lib.hid hn4
        clear hn4
        refine hK.out _ _ HN4.out.cells (fun _ => ?_)
        clear hK K
        try simp only [Act.put, List.setIfInBounds_toArray, List.set_cons_zero, List.set_cons_succ, List.getElem_toArray, List.getElem_cons_zero, List.getElem_cons_succ]
        refine wpAnyH_ready (rs := [21]) (by kernel_rfl) (by simp) ?_
        refine AllReadyH.cons rfl (fun K hK => ?_) AllReadyH.nil
        go_simp
        refine (HN4.out.num x.to (by have := HFX.out.to; omega) (by (try simp only [List.length_append]); (try have := numB_small9 (x.id - a).toNat (by have := HFX.out.id; have := HLL.out; omega)); (try have := numB_small9 x.kind.toNat (by have := HKX.out; omega)); (try have := numB_small9 x.par.toNat (by have := HFX.out.par; omega)); (try have := numB_small9 x.ord.toNat (by have := HFX.out.ord; omega)); (try have := numB_small9 x.frm.toNat (by have := HFX.out.frm; omega)); omega)).mono ?_
        rintro r wn5 ⟨rfl, vn5, hn5⟩
        have HN5 := Lib.hid hn5
        clear hn5
        refine hK.out _ _ HN5.out.cells (fun _ => ?_)
        clear hK K
        try simp only [Act.put, List.setIfInBounds_toArray, List.set_cons_zero, List.set_cons_succ, List.getElem_toArray, List.getElem_cons_zero, List.getElem_cons_succ]
        refine wpAnyH_done (by kernel_rfl) ?_ _
        clear hHeld hw0 hw1
        have HEB := Lib.hid HN5.out.drew
        go_wp2_with fail
        refine wp_region_held_drew (S := fun wq => wq.rangeAt E 0 x.vals) (by kernel_rfl) HEB.out.cells (fun hHeld => ?_)
        refine wpAnyH_take (i := 0) (v := .pointer (some ⟨B, 0, none⟩)) rfl (by kernel_rfl) (by kernel_rfl) (by kernel_rfl) (fun _ _ _ h => h) (Or.inl ⟨by rfl, ?yq17⟩) (by assumption) ?rq17
        case yq17 => (intro wq hSw; (try simp only [List.getElem_toArray, List.getElem_cons_zero, List.getElem_cons_succ]); go_simp; (try with_reducible rfl); all_goals (try omega))
        case rq17 =>
        try simp only [Act.put, List.setIfInBounds_toArray, List.set_cons_zero, List.set_cons_succ, List.getElem_toArray, List.getElem_cons_zero, List.getElem_cons_succ]
        refine wpAnyH_take (i := 1) (v := .pointer (some ⟨E, 4, none⟩)) rfl (by kernel_rfl) (by kernel_rfl) (by kernel_rfl) (fun _ _ _ h => h) (Or.inl ⟨by rfl, ?yq18⟩) (by assumption) ?rq18
        case yq18 => (intro wq hSw; (try simp only [List.getElem_toArray, List.getElem_cons_zero, List.getElem_cons_succ]); go_simp; (try with_reducible rfl); all_goals (try omega))
        case rq18 =>
        try simp only [Act.put, List.setIfInBounds_toArray, List.set_cons_zero, List.set_cons_succ, List.getElem_toArray, List.getElem_cons_zero, List.getElem_cons_succ]
        refine wpAnyH_take (i := 2) (v := .string x.name) rfl (by kernel_rfl) (by kernel_rfl) (by kernel_rfl) (fun _ _ _ h => h) (Or.inl ⟨by rfl, ?yq19⟩) (by assumption) ?rq19
        case yq19 => (intro wq hSw; obtain ⟨c0, c1, c2, c3, c4, c5, c6, c7, c8, c9⟩ := cells11_of hSw; (try simp only [List.getElem_toArray, List.getElem_cons_zero, List.getElem_cons_succ]); go_simp; (try with_reducible rfl); all_goals (try omega))
        case rq19 =>
        try simp only [Act.put, List.setIfInBounds_toArray, List.set_cons_zero, List.set_cons_succ, List.getElem_toArray, List.getElem_cons_zero, List.getElem_cons_succ]
        refine wpAnyH_take (i := 4) (v := .pointer (some ⟨E, 7, none⟩)) rfl (by kernel_rfl) (by kernel_rfl) (by kernel_rfl) (fun _ _ _ h => h) (Or.inl ⟨by rfl, ?yq20⟩) (by assumption) ?rq20
        case yq20 => (intro wq hSw; (try simp only [List.getElem_toArray, List.getElem_cons_zero, List.getElem_cons_succ]); go_simp; (try with_reducible rfl); all_goals (try omega))
        case rq20 =>
        try simp only [Act.put, List.setIfInBounds_toArray, List.set_cons_zero, List.set_cons_succ, List.getElem_toArray, List.getElem_cons_zero, List.getElem_cons_succ]
        refine wpAnyH_take (i := 5) (v := .string x.ev) rfl (by kernel_rfl) (by kernel_rfl) (by kernel_rfl) (fun _ _ _ h => h) (Or.inl ⟨by rfl, ?yq21⟩) (by assumption) ?rq21
        case yq21 => (intro wq hSw; obtain ⟨c0, c1, c2, c3, c4, c5, c6, c7, c8, c9⟩ := cells11_of hSw; (try simp only [List.getElem_toArray, List.getElem_cons_zero, List.getElem_cons_succ]); go_simp; (try with_reducible rfl); all_goals (try omega))
        case rq21 =>
        try simp only [Act.put, List.setIfInBounds_toArray, List.set_cons_zero, List.set_cons_succ, List.getElem_toArray, List.getElem_cons_zero, List.getElem_cons_succ]
        refine wpAnyH_take (i := 7) (v := .pointer (some ⟨E, 8, none⟩)) rfl (by kernel_rfl) (by kernel_rfl) (by kernel_rfl) (fun _ _ _ h => h) (Or.inl ⟨by rfl, ?yq22⟩) (by assumption) ?rq22
        case yq22 => (intro wq hSw; (try simp only [List.getElem_toArray, List.getElem_cons_zero, List.getElem_cons_succ]); go_simp; (try with_reducible rfl); all_goals (try omega))
        case rq22 =>
        try simp only [Act.put, List.setIfInBounds_toArray, List.set_cons_zero, List.set_cons_succ, List.getElem_toArray, List.getElem_cons_zero, List.getElem_cons_succ]
        refine wpAnyH_take (i := 8) (v := .string x.gd) rfl (by kernel_rfl) (by kernel_rfl) (by kernel_rfl) (fun _ _ _ h => h) (Or.inl ⟨by rfl, ?yq23⟩) (by assumption) ?rq23
        case yq23 => (intro wq hSw; obtain ⟨c0, c1, c2, c3, c4, c5, c6, c7, c8, c9⟩ := cells11_of hSw; (try simp only [List.getElem_toArray, List.getElem_cons_zero, List.getElem_cons_succ]); go_simp; (try with_reducible rfl); all_goals (try omega))
        case rq23 =>
        try simp only [Act.put, List.setIfInBounds_toArray, List.set_cons_zero, List.set_cons_succ, List.getElem_toArray, List.getElem_cons_zero, List.getElem_cons_succ]
        refine wpAnyH_take (i := 10) (v := .pointer (some ⟨E, 9, none⟩)) rfl (by kernel_rfl) (by kernel_rfl) (by kernel_rfl) (fun _ _ _ h => h) (Or.inl ⟨by rfl, ?yq24⟩) (by assumption) ?rq24
        case yq24 => (intro wq hSw; (try simp only [List.getElem_toArray, List.getElem_cons_zero, List.getElem_cons_succ]); go_simp; (try with_reducible rfl); all_goals (try omega))
        case rq24 =>
        try simp only [Act.put, List.setIfInBounds_toArray, List.set_cons_zero, List.set_cons_succ, List.getElem_toArray, List.getElem_cons_zero, List.getElem_cons_succ]
        refine wpAnyH_take (i := 11) (v := .string x.ac) rfl (by kernel_rfl) (by kernel_rfl) (by kernel_rfl) (fun _ _ _ h => h) (Or.inl ⟨by rfl, ?yq25⟩) (by assumption) ?rq25
        case yq25 => (intro wq hSw; obtain ⟨c0, c1, c2, c3, c4, c5, c6, c7, c8, c9⟩ := cells11_of hSw; (try simp only [List.getElem_toArray, List.getElem_cons_zero, List.getElem_cons_succ]); go_simp; (try with_reducible rfl); all_goals (try omega))
        case rq25 =>
        try simp only [Act.put, List.setIfInBounds_toArray, List.set_cons_zero, List.set_cons_succ, List.getElem_toArray, List.getElem_cons_zero, List.getElem_cons_succ]
        refine wpAnyH_ready (rs := [3]) (by kernel_rfl) (by simp) ?_
        refine AllReadyH.cons rfl (fun K hK => ?_) AllReadyH.nil
        go_simp
        refine (HEB.out.text x.name HFX.out.name (by (try simp only [List.length_append]); (try have := numB_small9 (x.id - a).toNat (by have := HFX.out.id; have := HLL.out; omega)); (try have := numB_small9 x.kind.toNat (by have := HKX.out; omega)); (try have := numB_small9 x.par.toNat (by have := HFX.out.par; omega)); (try have := numB_small9 x.ord.toNat (by have := HFX.out.ord; omega)); (try have := numB_small9 x.frm.toNat (by have := HFX.out.frm; omega)); (try have := numB_small9 x.to.toNat (by have := HFX.out.to; omega)); (try have := textB_len x.name (by have := HFX.out.name; omega)); (try have := textB_len x.ev (by have := HFX.out.ev; omega)); (try have := textB_len x.gd (by have := HFX.out.gd; omega)); omega)).mono ?_
        rintro r wt0 ⟨rfl, vt0, ht0⟩
        have HT_0 := Lib.hid ht0
        clear ht0
        refine hK.out _ _ HT_0.out.cells (fun _ => ?_)
        clear hK K
        try simp only [Act.put, List.setIfInBounds_toArray, List.set_cons_zero, List.set_cons_succ, List.getElem_toArray, List.getElem_cons_zero, List.getElem_cons_succ]
        refine wpAnyH_ready (rs := [6]) (by kernel_rfl) (by simp) ?_
        refine AllReadyH.cons rfl (fun K hK => ?_) AllReadyH.nil
        go_simp
        refine (HT_0.out.text x.ev HFX.out.ev (by (try simp only [List.length_append]); (try have := numB_small9 (x.id - a).toNat (by have := HFX.out.id; have := HLL.out; omega)); (try have := numB_small9 x.kind.toNat (by have := HKX.out; omega)); (try have := numB_small9 x.par.toNat (by have := HFX.out.par; omega)); (try have := numB_small9 x.ord.toNat (by have := HFX.out.ord; omega)); (try have := numB_small9 x.frm.toNat (by have := HFX.out.frm; omega)); (try have := numB_small9 x.to.toNat (by have := HFX.out.to; omega)); (try have := textB_len x.name (by have := HFX.out.name; omega)); (try have := textB_len x.ev (by have := HFX.out.ev; omega)); (try have := textB_len x.gd (by have := HFX.out.gd; omega)); omega)).mono ?_
        rintro r wt1 ⟨rfl, vt1, ht1⟩
        have HT_1 := Lib.hid ht1
        clear ht1
        refine hK.out _ _ HT_1.out.cells (fun _ => ?_)
        clear hK K
        try simp only [Act.put, List.setIfInBounds_toArray, List.set_cons_zero, List.set_cons_succ, List.getElem_toArray, List.getElem_cons_zero, List.getElem_cons_succ]
        refine wpAnyH_ready (rs := [9]) (by kernel_rfl) (by simp) ?_
        refine AllReadyH.cons rfl (fun K hK => ?_) AllReadyH.nil
        go_simp
        refine (HT_1.out.text x.gd HFX.out.gd (by (try simp only [List.length_append]); (try have := numB_small9 (x.id - a).toNat (by have := HFX.out.id; have := HLL.out; omega)); (try have := numB_small9 x.kind.toNat (by have := HKX.out; omega)); (try have := numB_small9 x.par.toNat (by have := HFX.out.par; omega)); (try have := numB_small9 x.ord.toNat (by have := HFX.out.ord; omega)); (try have := numB_small9 x.frm.toNat (by have := HFX.out.frm; omega)); (try have := numB_small9 x.to.toNat (by have := HFX.out.to; omega)); (try have := textB_len x.name (by have := HFX.out.name; omega)); (try have := textB_len x.ev (by have := HFX.out.ev; omega)); (try have := textB_len x.gd (by have := HFX.out.gd; omega)); omega)).mono ?_
        rintro r wt2 ⟨rfl, vt2, ht2⟩
        have HT_2 := Lib.hid ht2
        clear ht2
        refine hK.out _ _ HT_2.out.cells (fun _ => ?_)
        clear hK K
        try simp only [Act.put, List.setIfInBounds_toArray, List.set_cons_zero, List.set_cons_succ, List.getElem_toArray, List.getElem_cons_zero, List.getElem_cons_succ]
        refine wpAnyH_ready (rs := [12]) (by kernel_rfl) (by simp) ?_
        refine AllReadyH.cons rfl (fun K hK => ?_) AllReadyH.nil
        go_simp
        refine (HT_2.out.text x.ac HFX.out.ac (by (try simp only [List.length_append]); (try have := numB_small9 (x.id - a).toNat (by have := HFX.out.id; have := HLL.out; omega)); (try have := numB_small9 x.kind.toNat (by have := HKX.out; omega)); (try have := numB_small9 x.par.toNat (by have := HFX.out.par; omega)); (try have := numB_small9 x.ord.toNat (by have := HFX.out.ord; omega)); (try have := numB_small9 x.frm.toNat (by have := HFX.out.frm; omega)); (try have := numB_small9 x.to.toNat (by have := HFX.out.to; omega)); (try have := textB_len x.name (by have := HFX.out.name; omega)); (try have := textB_len x.ev (by have := HFX.out.ev; omega)); (try have := textB_len x.gd (by have := HFX.out.gd; omega)); omega)).mono ?_
        rintro r wt3 ⟨rfl, vt3, ht3⟩
        have HT_3 := Lib.hid ht3
        clear ht3
        refine hK.out _ _ HT_3.out.cells (fun _ => ?_)
        clear hK K
        try simp only [Act.put, List.setIfInBounds_toArray, List.set_cons_zero, List.set_cons_succ, List.getElem_toArray, List.getElem_cons_zero, List.getElem_cons_succ]
        refine wpAnyH_done (by kernel_rfl) ?_ _
        clear hHeld
        obtain ⟨z0, _⟩ := cells11_of HT_3.out.cells
        go_wp2_with fail
        go_roundw
        case rel => exact ⟨k + 1, _, by omega, by go_num, by rw [HLS.out], by rw [HNX.out]; have := HT_3.out.pen; simpa only [elemB, List.append_assoc] using this, HT_3.out.turn⟩
        case measure => simp [intOf]; omega
      · have hke : k = n := by omega
        have dk : decide ((k : Int) < (n : Int)) = false := decide_eq_false (by omega)
        have hto : l.take k = l := List.take_of_length_le (by rw [HN.out]; omega)
        have hcp := HP.out.cell
        have HTO := Lib.hid hto
        obtain ⟨pa, pc, hpv⟩ := own_slice HP.out.own
        obtain ⟨Q, hQ⟩ : ∃ Q, ([67, 49] ++ numB n ++ elemsB 0 (l.take k)).length = Q := ⟨_, rfl⟩
        rw [hQ] at hpv
        have HQ := Lib.hid hQ
        clear hQ
        rw [hpv] at hcp
        have HPV := Lib.hid hpv
        clear hto hpv
        go_wp2_with fail
        go_ret2
        refine ⟨HTR.out, .inr ⟨HR.out, _, rfl, ?_⟩⟩
        have := HP.out.own
        rw [HPV.out] at this
        have e : [67, 49] ++ numB n ++ elemsB 0 (l.take k) = bytesE l := by rw [HTO.out]; unfold bytesE; rw [HN.out]
        rw [← e, HQ.out]
        rw [HQ.out] at this
        exact this
end Go.Proofs.Ytokjlhpkjebnkaa
