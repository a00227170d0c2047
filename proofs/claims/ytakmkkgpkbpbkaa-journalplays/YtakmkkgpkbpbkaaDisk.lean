/- Own contracts: a disk as lists; the last that was written to a sector. No statement is proved here. -/
import Derived.Test.YtakmkkgpkbpbkaaHead
namespace Go.Proofs.Ytakmkkgpkbpbkaa
open Go.RowKit
set_option linter.unusedVariables false
set_option linter.unusedSimpArgs false

section
theorem results_cell_mid {P : Program} {fn : Func} {p : Tmp} {ty : TypeId} (h : fn.results = #[.cell p ty]) (tmps : Array Value) (w : World) (b : Nat) (cs : List Value) (d : TypeDesc)
    (hp : tmps.getD p undef = .pointer (some ⟨b, 0, none⟩)) (hc : w.rangeAt b 0 cs) (hu : P.underlying ty = some d) (hd : d.isRow = true) (hi : (P.info? ty).map (·.size) = some cs.length) :
    (results fn tmps).run P w = .ok (.agg cs.toArray) w := by
  have hp' : tmps[p]?.getD undef = .pointer (some ⟨b, 0, none⟩) := by simpa using hp
  simp [results, h, hp', asAddr, run_loadVar_mid w b 0 ty cs d hc hu hd hi]
theorem turn_setCells (B : Nat) : ∀ (vs : List Value) (o : Nat) (w : World), Turn (fun q => q = B) w (w.setCells B o vs)
  | [], o, w => by simp only [World.setCells]; exact Turn.refl _ _
  | v :: vs, o, w => by
    simp only [World.setCells]
    exact ((Turn.refl (fun q => q = B) w).setCell (p := ⟨B, o, none⟩) (fun _ => rfl) v).trans (turn_setCells B vs (o + 1) _) (fun _ _ h => h)
theorem rangeAt_turn {w w' : World} {S : Nat → Prop} {B o : Nat} {cs : List Value} (h : w.rangeAt B o cs) (ht : Turn S w w') (hB : ¬ S B) : w'.rangeAt B o cs := fun j v hv => by
  have h1 := h j v hv
  exact (ht.cell (p := ⟨B, o + j, none⟩) (World.block_lt_of_cell? w _ h1) hB).trans h1
theorem there_turn {w w' : World} {S : Nat → Prop} {B o n : Nat} (h : w.there B o n) (ht : Turn S w w') (hB : ¬ S B) : w'.there B o n := fun j hj => by
  obtain ⟨h1, h2⟩ := h j hj
  obtain ⟨v, hv⟩ := Option.isSome_iff_exists.1 h1
  have hb := World.block_lt_of_cell? w _ hv
  exact ⟨by rw [ht.cell (p := ⟨B, o + j, none⟩) hb hB]; exact h1, (ht.frozen (p := ⟨B, o + j, none⟩) hb hB).trans h2⟩
end

theorem size53 : (Try.prog.info? 76).map (·.size) = some 64 := by kernel_rfl
theorem size55 : (Try.prog.info? 78).map (·.size) = some 65 := by kernel_rfl
def BytesOk (xs : List Int) : Prop := ∀ x ∈ xs, 0 ≤ x ∧ x < 256

def secV (s : List Int) : List Value := s.map (Value.int .u8)
theorem secV_len (s : List Int) : (secV s).length = s.length := by simp [secV]
theorem secV_one (s : List Int) : ∀ v ∈ secV s, v.oneCell' = true := ints_oneCell _ _
theorem sec_there {W : World} {B o : Nat} {s : List Int} (h : W.there B o 64) (hs : s.length = 64) : W.there B o (secV s).toArray.size := by
  have e : (secV s).toArray.size = 64 := by simp [secV, hs]
  rw [e]; exact h
theorem sec_size {s : List Int} (hs : s.length = 64) : (Try.prog.info? 76).map (·.size) = some (secV s).toArray.size := by
  have e : (secV s).toArray.size = 64 := by simp [secV, hs]
  rw [e]; exact size53
theorem sec_size' {s : List Int} (hs : s.length = 64) : (Try.prog.info? 76).map (·.size) = some (secV s).length := by rw [secV_len, hs]; exact size53
def wrV (x : Nat × List Int) : List Value := .int .i64 (x.1 : Int) :: secV x.2
def flatW (l : List (Nat × List Int)) : List Value := l.flatMap wrV
def WetOk (l : List (Nat × List Int)) : Prop := ∀ x ∈ l, x.2.length = 64
theorem flatW_len (l : List (Nat × List Int)) (h : WetOk l) : (flatW l).length = l.length * 65 := by
  induction l with
  | nil => rfl
  | cons x l ih =>
    have h1 : (wrV x).length = 65 := by simp [wrV, secV_len, h x List.mem_cons_self]
    have h2 := ih (fun y hy => h y (List.mem_cons_of_mem _ hy))
    simp only [flatW, List.flatMap_cons, List.length_append, h1, List.length_cons] at h2 ⊢
    omega
theorem flatW_at (l : List (Nat × List Int)) (h : WetOk l) (i : Nat) (x : Nat × List Int) (hx : l[i]? = some x) (j : Nat) (hj : j < 65) : (flatW l)[i * 65 + j]? = (wrV x)[j]? := by
  induction l generalizing i with
  | nil => simp at hx
  | cons y l ih =>
    have h1 : (wrV y).length = 65 := by simp [wrV, secV_len, h y List.mem_cons_self]
    cases i with
    | zero =>
      obtain rfl : y = x := by simpa using hx
      simp only [flatW, List.flatMap_cons]
      rw [List.getElem?_append_left (by omega)]; simp
    | succ i =>
      simp only [flatW, List.flatMap_cons]
      rw [List.getElem?_append_right (by omega), h1, show (i + 1) * 65 + j - 65 = i * 65 + j by omega]
      exact ih (fun z hz => h z (List.mem_cons_of_mem _ hz)) i (by simpa using hx)

/-- The safe sectors, one behind the other. -/
def SafeAt (w : World) (S : Nat) (l : List (List Int)) : Prop := ∀ i s, l[i]? = some s → w.rangeAt S (i * 64) (secV s) ∧ w.there S (i * 64) 64
theorem SafeAt.turn {w w' : World} {S : Nat} {l : List (List Int)} {G : Nat → Prop} (h : SafeAt w S l) (ht : Turn G w w') (hn : ¬ G S) : SafeAt w' S l := fun i s hs =>
  ⟨rangeAt_turn (h i s hs).1 ht hn, there_turn (h i s hs).2 ht hn⟩

structure DiskM where
  safe : List (List Int)
  wet : List (Nat × List Int)
  acts : Nat
  armed : Bool
  left : Nat
  off : Bool
structure DiskM.Ok (d : DiskM) : Prop where
  safe : ∀ s ∈ d.safe, s.length = 64 ∧ BytesOk s
  wet : ∀ x ∈ d.wet, x.1 < d.safe.length ∧ x.2.length = 64 ∧ BytesOk x.2
theorem DiskM.Ok.wetOk {d : DiskM} (h : d.Ok) : WetOk d.wet := fun x hx => (h.wet x hx).2.1
def DiskM.head (d : DiskM) (S sc : Nat) (wv : Value) : HeadM := ⟨.slice (some ⟨S, 0, none⟩) d.safe.length sc, wv, d.acts, d.armed, d.left, d.off⟩

/-- A disk in memory: its head's block, its sectors' block, its writes. -/
structure DiskIn (w : World) (F : Nat → Prop) (D S sc : Nat) (wv : Value) (d : DiskM) : Prop where
  head : Head w D (d.head S sc wv)
  cap : d.safe.length ≤ sc
  safe : SafeAt w S d.safe
  slt : S < w.heap.size
  wet : w.ownsRow 0 78 65 wv d.wet.length (flatW d.wet)
  fD : F D
  fS : F S
  fw : ∀ k, wv.ownBlock = some k → F k
  nDS : D ≠ S
  nDw : wv.ownBlock ≠ some D
  nSw : wv.ownBlock ≠ some S
  ok : d.Ok
  few : d.safe.length ≤ 4096
theorem DiskIn.turn {w w' : World} {F G : Nat → Prop} {D S sc : Nat} {wv : Value} {d : DiskM} (h : DiskIn w F D S sc wv d) (ht : Turn G w w') (hn : ∀ k, F k → ¬ G k) : DiskIn w' F D S sc wv d :=
  { h with head := h.head.turn ht (hn D h.fD), safe := h.safe.turn ht (hn S h.fS), slt := Nat.lt_of_lt_of_le h.slt ht.size, wet := ht.owns h.wet (fun k hk => hn k (h.fw k hk)) }
/-- A write's cells. -/
theorem wet_range {w : World} {wv : Value} {l : List (Nat × List Int)} (h : w.ownsRow 0 78 65 wv l.length (flatW l)) (hw : WetOk l) (i : Nat) (x : Nat × List Int) (hx : l[i]? = some x) :
    ∃ g c, wv = .slice (some ⟨g, 0, none⟩) l.length c ∧ l.length ≤ c ∧ w.cell? ⟨g, i * 65, none⟩ = some (.int .i64 (x.1 : Int)) ∧ w.rangeAt g (i * 65 + 1) (secV x.2) ∧ w.rangeAt g (i * 65) (wrV x) := by
  have hi : i < l.length := (List.getElem?_eq_some_iff.1 hx).1
  rcases h.2 with ⟨_, h0⟩ | ⟨g, cap, cur, rfl, _, _, hc, _⟩
  · omega
  · have cells : ∀ j, j < 65 → w.cell? ⟨g, i * 65 + j, none⟩ = (wrV x)[j]? := fun j hj => by
      rw [h.cellAt (i * 65 + j) (by omega), flatW_at l hw i x hx j hj]
    refine ⟨g, cap, rfl, hc, ?_, fun j v hv => ?_, fun j v hv => ?_⟩
    · have := cells 0 (by omega)
      simpa [wrV] using this
    · have hj : j < (secV x.2).length := (List.getElem?_eq_some_iff.1 hv).1
      rw [secV_len, hw x (List.mem_of_getElem? hx)] at hj
      have := cells (j + 1) (by omega)
      rw [show i * 65 + (j + 1) = i * 65 + 1 + j by omega] at this
      rw [this]
      simpa [wrV] using hv
    · have hj : j < (wrV x).length := (List.getElem?_eq_some_iff.1 hv).1
      simp only [wrV, List.length_cons, secV_len, hw x (List.mem_of_getElem? hx)] at hj
      rw [cells j (by omega)]; exact hv
theorem wet_form {w : World} {wv : Value} {n : Nat} {xs : List Value} (h : w.ownsRow 0 78 65 wv n xs) : ∃ a c, wv = .slice a n c := by
  rcases h.2 with ⟨rfl, h0⟩ | ⟨g, cap, cur, rfl, _⟩
  · subst h0; exact ⟨_, _, rfl⟩
  · exact ⟨_, _, rfl⟩

/-- The last that was written to a sector. -/
def lastW : List (Nat × List Int) → Nat → Option (List Int)
  | [], _ => none
  | x :: l, k => (lastW l k).or (if x.1 = k then some x.2 else none)
theorem lastW_app (a b : List (Nat × List Int)) (k : Nat) : lastW (a ++ b) k = (lastW b k).or (lastW a k) := by
  induction a with
  | nil => simp [lastW]
  | cons x a ih => simp only [List.cons_append, lastW, ih, Option.or_assoc]
def DiskM.last (d : DiskM) (k : Nat) : List Int := (lastW d.wet k).getD (d.safe.getD k [])
theorem DiskM.Ok.last {d : DiskM} (h : d.Ok) (k : Nat) (hk : k < d.safe.length) : (d.last k).length = 64 ∧ BytesOk (d.last k) := by
  have key : ∀ l : List (Nat × List Int), (∀ x ∈ l, x.2.length = 64 ∧ BytesOk x.2) → ∀ s, lastW l k = some s → s.length = 64 ∧ BytesOk s := by
    intro l
    induction l with
    | nil => intro _ s hs; simp [lastW] at hs
    | cons x l ih =>
      intro hl s hs
      simp only [lastW] at hs
      cases hr : lastW l k with
      | some t =>
        rw [hr] at hs
        obtain rfl : t = s := by simpa using hs
        exact ih (fun y hy => hl y (List.mem_cons_of_mem _ hy)) t hr
      | none =>
        rw [hr] at hs
        simp only [Option.none_or] at hs
        split at hs
        · obtain rfl : x.2 = s := by simpa using hs
          exact hl x List.mem_cons_self
        · simp at hs
  unfold DiskM.last
  cases hr : lastW d.wet k with
  | some s => exact key d.wet (fun x hx => (h.wet x hx).2) s hr
  | none =>
    simp only [Option.getD_none]
    have hm : d.safe.getD k [] ∈ d.safe := by simp [List.getD, hk]
    exact h.safe _ hm

theorem zero64 (w W : World) (cs : Array Value) (h : w.alloc (.cells cs 76) = W) (hcs : cs = Array.replicate 64 (.int .u8 0)) : W.there w.heap.size 0 64 ∧ Turn (fun _ => False) w W := by
  subst hcs
  subst h
  refine ⟨fun j hj => ?_, (Turn.refl _ w).alloc _⟩
  have hb := heap_alloc_new w (.cells (Array.replicate 64 (.int .u8 0)) 76)
  rw [Nat.zero_add]
  exact ⟨by rw [cell_of_row _ _ _ _ 76 (0, 0) hb]; simp [hj], frozen_of_row _ _ _ _ 76 hb⟩

def LastPost (w : World) (s : List Int) (e : Ending) (w' : World) : Prop := e = .returned (.agg (secV s).toArray) ∧ Turn (fun _ => False) w w'
set_option maxHeartbeats 1600000 in
set_option maxRecDepth 100000 in
theorem last_any (w : World) (F : Nat → Prop) (D S sc : Nat) (wv : Value) (d : DiskM) (k : Nat) (h : DiskIn w F D S sc wv d) (hk : k < d.safe.length) (hwl : d.wet.length ≤ 1000000000000) :
    Calls Try.prog 41 #[.pointer (some ⟨D, 0, none⟩), .int .i64 (k : Int)] w (LastPost w (d.last k)) := by
  obtain ⟨wa, wc, rfl⟩ := wet_form h.wet
  obtain ⟨c0, c1, _⟩ := h.head.all
  dsimp only [DiskM.head] at c0 c1
  have HD := Lib.hid h
  clear h
  go_enter Try.func41, Try.ntmps41
  go_wp2_with (with_reducible (show wpList _ _ _ (Oper.mk (some 9) (.load 53 (.tmp 8)) _ _ _ _ :: _) _ _); generalize hW : World.alloc w _ = W; obtain ⟨hth, T1⟩ := zero64 w W _ hW (by kernel_rfl); have c0' := (T1.cell (p := ⟨D, 0, none⟩) HD.out.head.lt id).trans c0; have c1' := (T1.cell (p := ⟨D, 1, none⟩) HD.out.head.lt id).trans c1; clear hW c0 c1)
  have HB := Lib.hid (Nat.le_refl w.heap.size)
  generalize hBB : w.heap.size = B at hth HB ⊢
  have HI := Lib.hid (HD.out.turn T1 (fun _ _ => id))
  have hkv := HD.out.ok.last k hk
  have hi53 : ∀ s : List Int, s.length = 64 → (Try.prog.info? 76).map (·.size) = some (secV s).length := fun s hs => by rw [size53, secV_len, hs]
  have hi53' : ∀ s : List Int, s.length = 64 → (Try.prog.info? 76).map (·.size) = some (secV s).toArray.size := fun s hs => by rw [size53, List.size_toArray, secV_len, hs]
  have H53 := Lib.hid hi53
  have H53' := Lib.hid hi53'
  clear hi53 hi53'
  obtain ⟨n, hn⟩ : ∃ n, d.wet.length = n := ⟨_, rfl⟩
  rw [hn] at hwl c1'
  simp only [hn]
  have HN := Lib.hid hn
  clear hn
  go_loop [5] (fun iv => ∃ (j : Nat), j ≤ n ∧ iv = .int .i64 ((j : Int) - 1) ∧ lastW (d.wet.drop j) k = none) (fun iv => (intOf iv + 1).toNat)
  case atStart => exact ⟨n, Nat.le_refl _, rfl, by rw [List.drop_of_length_le (by rw [HN.out]; omega)]; rfl⟩
  case round =>
    obtain ⟨j, hj, rfl, hno⟩ := hrel
    have HNO := Lib.hid hno
    clear hno
    by_cases h0 : j = 0
    · subst h0
      have hdk : decide ((0 : Int) ≤ ((0 : Nat) : Int) - 1) = false := by decide
      have hlast : d.last k = d.safe.getD k [] := by
        have := HNO.out
        rw [List.drop_zero] at this
        unfold DiskM.last; rw [this]; rfl
      have hsk : d.safe[k]? = some (d.safe.getD k []) := by simp [List.getD, hk]
      obtain ⟨r1, _⟩ := HI.out.safe k _ hsk
      rw [hlast] at hkv
      have HLA := Lib.hid hlast
      clear hlast hsk
      generalize d.safe.getD k [] = s at r1 hkv HLA
      go_wp2_with (first | (with_reducible (show wpList _ _ _ (Oper.mk (some 40) (.load 76 (.tmp 39)) _ _ _ _ :: _) _ _); refine wpList_load_mid (op := ⟨some 40, .load 76 (.tmp 39), _, _, _, _⟩) rfl 76 (.tmp 39) rfl S (k * 64) rfl (secV s) _ r1 Try.underlying76 rfl (H53.out s hkv.1) ?_) | (with_reducible (show wpList _ _ _ (Oper.mk none (.store 76 (.tmp 4) (.tmp 40)) _ _ _ _ :: _) _ _); refine wpList_store_mid (op := ⟨none, .store 76 (.tmp 4) (.tmp 40), _, _, _, _⟩) rfl 76 (.tmp 4) (.tmp 40) rfl B 0 (secV s).toArray rfl rfl (by rw [List.size_toArray, secV_len, hkv.1]; exact hth) (H53'.out s hkv.1) (all_oneCell_toArray (secV_one s)) ?_))
      have hrg := World.rangeAt_setCells_same W B 0 (secV s) (by rw [secV_len, hkv.1]; exact hth)
      refine bodyPost_ret (v := .agg (secV s).toArray) (results_cell_mid Try.results41 _ _ B (secV s) _ rfl hrg Try.underlying76 rfl (H53.out s hkv.1)) rfl ⟨by rw [HLA.out], ?_⟩
      exact T1.trans (turn_setCells B (secV s) 0 W) (fun q hq h => by have := HB.out; omega)
    · obtain ⟨i, rfl⟩ : ∃ i, j = i + 1 := ⟨j - 1, by omega⟩
      have hiv : ((i + 1 : Nat) : Int) - 1 = (i : Int) := by omega
      rw [hiv]
      have hin : i < n := by omega
      have hdk : decide ((0 : Int) ≤ (i : Int)) = true := by simp
      obtain ⟨x, hx⟩ : ∃ x, d.wet[i]? = some x := ⟨_, List.getElem?_eq_getElem (by rw [HN.out]; exact hin)⟩
      obtain ⟨g, c, hsl, hcap, hc1, hr1, _⟩ := wet_range HI.out.wet HI.out.ok.wetOk i x hx
      rw [HN.out] at hsl hcap
      injection hsl with e1 e2 e3
      subst e1
      subst e3
      have hdrop : d.wet.drop i = x :: d.wet.drop (i + 1) := by
        rw [List.drop_eq_getElem_cons (by rw [HN.out]; exact hin)]
        congr 1
        rw [List.getElem?_eq_getElem (by rw [HN.out]; exact hin)] at hx
        exact Option.some.inj hx
      have hlw : lastW (d.wet.drop i) k = if x.1 = k then some x.2 else none := by
        rw [hdrop, lastW, HNO.out]; rfl
      have HLW := Lib.hid hlw
      have hx64 := HI.out.ok.wetOk x (List.mem_of_getElem? hx)
      clear hlw hdrop hx e2 hiv
      obtain ⟨xa, xs⟩ := x
      dsimp only at hc1 hr1 hx64 HLW
      by_cases hxk : xa = k
      · subst hxk
        have hb : ((xa : Int) == (xa : Int)) = true := by simp
        have hla : d.last xa = xs := by
          have h1 := HLW.out
          rw [if_pos rfl] at h1
          unfold DiskM.last
          rw [← List.take_append_drop i d.wet, lastW_app, h1]; rfl
        have HLA := Lib.hid hla
        clear hla
        go_wp2_with (first | (with_reducible (show wpList _ _ _ (Oper.mk (some 33) (.load 76 (.tmp 32)) _ _ _ _ :: _) _ _); refine wpList_load_mid (op := ⟨some 33, .load 76 (.tmp 32), _, _, _, _⟩) rfl 76 (.tmp 32) rfl g (i * 65 + 1) rfl (secV xs) _ hr1 Try.underlying76 rfl (H53.out xs hx64) ?_) | (with_reducible (show wpList _ _ _ (Oper.mk none (.store 76 (.tmp 4) (.tmp 33)) _ _ _ _ :: _) _ _); refine wpList_store_mid (op := ⟨none, .store 76 (.tmp 4) (.tmp 33), _, _, _, _⟩) rfl 76 (.tmp 4) (.tmp 33) rfl B 0 (secV xs).toArray rfl rfl (by rw [List.size_toArray, secV_len, hx64]; exact hth) (H53'.out xs hx64) (all_oneCell_toArray (secV_one xs)) ?_))
        have hrg := World.rangeAt_setCells_same W B 0 (secV xs) (by rw [secV_len, hx64]; exact hth)
        refine bodyPost_ret (v := .agg (secV xs).toArray) (results_cell_mid Try.results41 _ _ B (secV xs) _ rfl hrg Try.underlying76 rfl (H53.out xs hx64)) rfl ⟨by rw [HLA.out], ?_⟩
        exact T1.trans (turn_setCells B (secV xs) 0 W) (fun q hq h => by have := HB.out; omega)
      · have hb : ((xa : Int) == (k : Int)) = false := by rw [beq_eq_false_iff_ne]; omega
        have h1 := HLW.out
        rw [if_neg hxk] at h1
        have H1 := Lib.hid h1
        clear h1
        go_wp2_with fail
        go_round
        case rel => exact ⟨i, by omega, rfl, H1.out⟩
        case measure => simp [intOf] <;> omega
end Go.Proofs.Ytakmkkgpkbpbkaa
