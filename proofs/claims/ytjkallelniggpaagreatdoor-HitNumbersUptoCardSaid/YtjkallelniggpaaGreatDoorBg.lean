/-
  The document's decoder of one character, and its agreement with the language's own.
  From the rows' conditions to the walks' words: the library's tables of the encoding; the statements' own first question; the row's last step.
  The document's decoder agrees with the language's; the contract of Chars, and of the document's Valid.
  The contract of the document's Chars: the placesT at which characters begin, and the end.
-/
import Derived.Test.YtjkallelniggpaaGreatDoorValid
import Derived.Test.YtjkallelniggpaaGreatDoorNames
import Derived.ProofKit
import Derived.LaidMore
import Derived.LaidLaws
import Derived.MakeChecks
import Derived.OpenShut
import Derived.ShutString
import Derived.Stop.Joined
import Derived.Stop.LaidErr
import Derived.Lib.LaidTab
import Derived.Lib.SmallJoins
import Derived.Lib.LaidU8T
import Derived.PinnedBridge
import Derived.Lay
import Derived.LaidOnce
import Derived.SizedLaws
import Derived.Test.YtjkallelniggpaaGreatDoorBa
namespace Go.Proofs.YtjkallelniggpaaGreatDoor
open Go.RowKit Txt
attribute [local go_sem] setCell_drewN cell?_ext frozen?_ext shape?_ext setCell_ext lt_1' ne_1' en_1' le_1' lt_2' ne_2' en_2' le_2' lt_3' ne_3' en_3' le_3' lt_4' ne_4' en_4' le_4' lt_5' ne_5' en_5' le_5' lt_6' ne_6' en_6' le_6' lt_7' ne_7' en_7' le_7' lt_8' ne_8' en_8' le_8' lt_9' ne_9' en_9' le_9' lt_10' ne_10' en_10' le_10' lt_11' ne_11' en_11' le_11' lt_12' ne_12' en_12' le_12'

/-- a byte that follows stands at a place -/
def Tl (s : ByteArray) (i : Nat) : Prop := i < s.size ∧ (s.get! i).toNat / 64 = 2
/-- the number that a lead byte's bits and the bytes that follow make -/
def acc (s : ByteArray) (i c0 : Nat) : Nat → Nat
  | 0 => c0
  | j + 1 => acc s i c0 j * 64 + (s.get! (i + (j + 1))).toNat % 64
theorem acc_bd (s : ByteArray) (i c0 : Nat) (h : c0 ≤ 31) : ∀ j, j ≤ 3 → acc s i c0 j ≤ 8388607 := by
  intro j hj
  have h3 : j = 0 ∨ j = 1 ∨ j = 2 ∨ j = 3 := by omega
  rcases h3 with rfl | rfl | rfl | rfl <;> simp only [acc] <;> omega
/-- which kind of lead byte: how many bytes, its bits, the least number -/
def Lead (x n c0 l : Nat) : Prop := (192 ≤ x ∧ x < 224 ∧ n = 2 ∧ c0 = x % 32 ∧ l = 128) ∨ (224 ≤ x ∧ x < 240 ∧ n = 3 ∧ c0 = x % 16 ∧ l = 2048) ∨ (240 ≤ x ∧ x < 248 ∧ n = 4 ∧ c0 = x % 8 ∧ l = 65536)
theorem three_ints {k : IntKind} {a b c d : Int} {x y : Bool} (h : a = c) (h' : b = d) (h3 : x = y) : Ending.returned (.tuple #[.int k a, .int k b, .bool x]) = .returned (.tuple #[.int k c, .int k d, .bool y]) := by rw [h, h', h3]
theorem dec_two {n b0 b1 b2 b3 : Nat} (h1 : 192 ≤ b0) (h2 : b0 < 224) (g : 1 < n) (g1 : b1 / 64 = 2) : Lib.decodeN n b0 b1 b2 b3 = if b0 % 32 * 64 + b1 % 64 ≥ 128 then (b0 % 32 * 64 + b1 % 64, 2) else (65533, 1) := by
  unfold Lib.decodeN
  rw [if_neg (by omega), if_pos ⟨by omega, g, g1⟩]
theorem dec_three {n b0 b1 b2 b3 : Nat} (h1 : 224 ≤ b0) (h2 : b0 < 240) (g : 2 < n) (g1 : b1 / 64 = 2) (g2 : b2 / 64 = 2) : Lib.decodeN n b0 b1 b2 b3 = if b0 % 16 * 4096 + b1 % 64 * 64 + b2 % 64 ≥ 2048 ∧ (b0 % 16 * 4096 + b1 % 64 * 64 + b2 % 64 < 55296 ∨ (57344 ≤ b0 % 16 * 4096 + b1 % 64 * 64 + b2 % 64 ∧ b0 % 16 * 4096 + b1 % 64 * 64 + b2 % 64 ≤ 1114111)) then (b0 % 16 * 4096 + b1 % 64 * 64 + b2 % 64, 3) else (65533, 1) := by
  unfold Lib.decodeN
  rw [if_neg (by omega), if_neg (by omega), if_pos ⟨by omega, ⟨by omega, g1⟩, g, g2⟩]
theorem dec_four {n b0 b1 b2 b3 : Nat} (h1 : 240 ≤ b0) (h2 : b0 < 248) (g : 3 < n) (g1 : b1 / 64 = 2) (g2 : b2 / 64 = 2) (g3 : b3 / 64 = 2) : Lib.decodeN n b0 b1 b2 b3 = if b0 % 8 * 262144 + b1 % 64 * 4096 + b2 % 64 * 64 + b3 % 64 ≥ 65536 ∧ (b0 % 8 * 262144 + b1 % 64 * 4096 + b2 % 64 * 64 + b3 % 64 < 55296 ∨ (57344 ≤ b0 % 8 * 262144 + b1 % 64 * 4096 + b2 % 64 * 64 + b3 % 64 ∧ b0 % 8 * 262144 + b1 % 64 * 4096 + b2 % 64 * 64 + b3 % 64 ≤ 1114111)) then (b0 % 8 * 262144 + b1 % 64 * 4096 + b2 % 64 * 64 + b3 % 64, 4) else (65533, 1) := by
  unfold Lib.decodeN
  rw [if_neg (by omega), if_neg (by omega), if_neg (by omega), if_pos ⟨by omega, ⟨by omega, g1⟩, ⟨by omega, g2⟩, g, g3⟩]
theorem dec_bad {n b0 b1 b2 b3 : Nat} (h0 : 128 ≤ b0) (h : ¬ ((192 ≤ b0 ∧ b0 < 224) ∧ 1 < n ∧ b1 / 64 = 2) ∧ ¬ ((224 ≤ b0 ∧ b0 < 240) ∧ (1 < n ∧ b1 / 64 = 2) ∧ 2 < n ∧ b2 / 64 = 2) ∧ ¬ ((240 ≤ b0 ∧ b0 < 248) ∧ (1 < n ∧ b1 / 64 = 2) ∧ (2 < n ∧ b2 / 64 = 2) ∧ 3 < n ∧ b3 / 64 = 2)) : Lib.decodeN n b0 b1 b2 b3 = (65533, 1) := by
  unfold Lib.decodeN
  rw [if_neg (by omega), if_neg (fun g => h.1 ⟨by omega, g.2⟩), if_neg (fun g => h.2.1 ⟨by omega, g.2⟩), if_neg (fun g => h.2.2 ⟨by omega, g.2⟩)]
end Go.Proofs.YtjkallelniggpaaGreatDoor
namespace Go.Proofs.YtjkallelniggpaaGreatDoor
open Go.ChangeShapes Go.WideShapes Go.ChangeAt Go.RowKit Go.Joins Txt
attribute [local go_sem] setCell_drewN cell?_ext frozen?_ext shape?_ext setCell_ext lt_1' ne_1' en_1' le_1' lt_2' ne_2' en_2' le_2' lt_3' ne_3' en_3' le_3' lt_4' ne_4' en_4' le_4' lt_5' ne_5' en_5' le_5' lt_6' ne_6' en_6' le_6' lt_7' ne_7' en_7' le_7' lt_8' ne_8' en_8' le_8' lt_9' ne_9' en_9' le_9' lt_10' ne_10' en_10' le_10' lt_11' ne_11' en_11' le_11' lt_12' ne_12' en_12' le_12'

theorem own : ownKnob Tryz.prog.godebug = none := by kernel_rfl
def charsLaid : List (String × DataW Unit) := [("unicode/utf8.acceptRanges", Rows.laid_unicode_utf8_acceptRanges), ("unicode/utf8.first", Rows.laid_unicode_utf8_first)]
theorem accept_data : (Rows.laid_unicode_utf8_acceptRanges : DataW Unit) = Lib.acceptData := by kernel_rfl
theorem first_data : Rows.laid_unicode_utf8_first = Lib.firstData := Pinned.utf8First_eq
theorem xU8 : U8Extra Tryz.prog Tryz.lays196_ren := ⟨by kernel_rfl, by kernel_rfl, by kernel_rfl, by kernel_rfl, by kernel_rfl, by kernel_rfl, by kernel_rfl⟩
theorem tabs_of_row {W : World} (h : laidMetH Tryz.prog charsLaid W) : Tabs W := by
  rw [MakeChecks.laidMetH_plain _ _ _ (by kernel_rfl)] at h
  have h3 := Lib.laidMet.reads h (n := "unicode/utf8.first") (d := Rows.laid_unicode_utf8_first) (.tail _ (.head _))
  have h4 := Lib.laidMet.reads h (n := "unicode/utf8.acceptRanges") (d := Rows.laid_unicode_utf8_acceptRanges) (.head _)
  rw [first_data] at h3
  rw [accept_data] at h4
  have hT : Lib.Utf8Tabs 1 2 W := utf8Tabs_of_readsT (U8Types.of196 Tryz.lays196) xU8 h3 h4
  exact ⟨hT, World.block_lt_of_cell? W _ (hT.1 0 (by decide)), World.block_lt_of_cell? W _ (hT.2 0 (by decide)).1⟩
theorem reach_of {s : ByteArray} (h : s.data.toList.length ≤ reachBytes) : s.size ≤ 140737488351232 := by
  rw [← Lib.size_eq] at h
  exact h
section
variable {H : Type} {enc : TypeId × Value → H} {P : Program}
/-- the row's last step where nothing below the first new block has turned -/
theorem post_below {f : Func} {s : ChangeSpec} {apart fresh handsOn again : Bool} {A B : World} {args : Array Value} {v : Value} {ds gs : List (DataW H)} {ps pa pv : List MemPlace}
    (hA : DataW.Whole enc P f.params.toList s.vars apart A args.toList ds gs ps)
    (hr : ∀ (b : Nat) (sp : Nat → Bool) (hd : Bool), DataW.TrodAll enc P B b sp hd f.resultTypes.toList (v.resultList f.resultTypes.size) (s.fn H (ds ++ gs)).results [])
    (ha : ∀ sp : Nat → Bool, (∀ p ∈ ps, sp p.block = true) → DataW.TrodAll enc P B 0 sp true f.params.toList args.toList (s.fn H (ds ++ gs)).args pa)
    (hv : ∀ sp : Nat → Bool, (∀ p ∈ ps, sp p.block = true) → DataW.TrodVars enc P B sp s.vars (s.fn H (ds ++ gs)).vars pv)
    (hp : ps = pa ++ pv) (hb : Below A.heap.size A B)
    (ho : ∀ (j : Nat) (t : TypeId) (r : Value), f.resultTypes[j]? = some t → (v.resultList f.resultTypes.size)[j]? = some r → Value.okWide P B .any 0 t r) :
    s.post enc P f apart fresh handsOn again A args v B := by
  have h1 : ∀ p ∈ ps, p.block < A.heap.size := fun p h => hA.lt p h
  have h2 : ∀ p ∈ ps, (fun b => decide (b < A.heap.size)) p.block = true := fun p h => by simpa using h1 p h
  refine ⟨ds, gs, ps, [], pa, pv, hA, hr _ _ _, ha _ h2, hv _ h2, World.keptBut_mono (fun p h => ⟨h, ?_⟩) (hb.frame (· ∈ ps)), fun _ => ?_⟩
  · rw [hp, List.mem_append] at h
    exact .inr h
  · obtain ⟨_, _, _, _, _, hz, hn⟩ := hA
    refine ⟨ho, _, _, ([] ++ pa) ++ pv, ⟨[] ++ pa, pv, trodAll_append (ha _ (fun _ _ => rfl)) (hr _ _ _), hv _ (fun _ _ => rfl), rfl, ?_, ?_⟩, ?_⟩
    · intro b off h
      have hin : MemPlace.cell b off ∈ ps := by rw [hp]; simpa using h
      rw [hb.frozen (h1 _ hin)]
      exact hz b off hin
    · intro h
      have := hn h
      rw [hp] at this
      simpa using this
    · intro p h _
      rw [hp]
      simpa using h
end
end Go.Proofs.YtjkallelniggpaaGreatDoor
namespace Go.Proofs.YtjkallelniggpaaGreatDoor
open Go.RowKit Txt
attribute [local go_sem] setCell_drewN cell?_ext frozen?_ext shape?_ext setCell_ext lt_1' ne_1' en_1' le_1' lt_2' ne_2' en_2' le_2' lt_3' ne_3' en_3' le_3' lt_4' ne_4' en_4' le_4' lt_5' ne_5' en_5' le_5' lt_6' ne_6' en_6' le_6' lt_7' ne_7' en_7' le_7' lt_8' ne_8' en_8' le_8' lt_9' ne_9' en_9' le_9' lt_10' ne_10' en_10' le_10' lt_11' ne_11' en_11' le_11' lt_12' ne_12' en_12' le_12'

theorem lead_of {x : Nat} (h : 192 ≤ x) (h' : x < 248) : ∃ n c0 l, Lead x n c0 l ∧ ((n = 2 ∧ x < 224 ∧ c0 = x % 32 ∧ l = 128) ∨ (n = 3 ∧ 224 ≤ x ∧ x < 240 ∧ c0 = x % 16 ∧ l = 2048) ∨ (n = 4 ∧ 240 ≤ x ∧ c0 = x % 8 ∧ l = 65536)) := by
  by_cases h1 : x < 224
  · exact ⟨2, _, _, .inl ⟨h, h1, rfl, rfl, rfl⟩, .inl ⟨rfl, h1, rfl, rfl⟩⟩
  · by_cases h2 : x < 240
    · exact ⟨3, _, _, .inr (.inl ⟨by omega, h2, rfl, rfl, rfl⟩), .inr (.inl ⟨rfl, by omega, h2, rfl, rfl⟩)⟩
    · exact ⟨4, _, _, .inr (.inr ⟨by omega, h', rfl, rfl, rfl⟩), .inr (.inr ⟨rfl, by omega, rfl, rfl⟩)⟩
end Go.Proofs.YtjkallelniggpaaGreatDoor
namespace Go.Proofs.YtjkallelniggpaaGreatDoor
open Go.RowKit Txt
attribute [local go_sem] setCell_drewN cell?_ext frozen?_ext shape?_ext setCell_ext lt_1' ne_1' en_1' le_1' lt_2' ne_2' en_2' le_2' lt_3' ne_3' en_3' le_3' lt_4' ne_4' en_4' le_4' lt_5' ne_5' en_5' le_5' lt_6' ne_6' en_6' le_6' lt_7' ne_7' en_7' le_7' lt_8' ne_8' en_8' le_8' lt_9' ne_9' en_9' le_9' lt_10' ne_10' en_10' le_10' lt_11' ne_11' en_11' le_11' lt_12' ne_12' en_12' le_12'

/-- the placesT from one on at which characters begin -/
def placesFrom (s : ByteArray) : Nat → Nat → List Nat
  | 0, _ => []
  | f + 1, pos => if pos < s.size then pos :: placesFrom s f (pos + (Utf8.decode s pos).2) else []
theorem placesFrom_end (s : ByteArray) (f pos : Nat) (h : ¬ pos < s.size) : placesFrom s f pos = [] := by
  cases f with
  | zero => rfl
  | succ f => simp [placesFrom, h]
theorem placesFrom_len (s : ByteArray) : ∀ f pos, (placesFrom s f pos).length = Lib.runeCountFrom s f pos
  | 0, _ => rfl
  | f + 1, pos => by
    simp only [placesFrom, Lib.runeCountFrom]
    split
    · rw [List.length_cons, placesFrom_len s f]; omega
    · rfl
def placesT (s : ByteArray) : List Nat := placesFrom s s.size 0 ++ [s.size]
theorem places_len (s : ByteArray) : (placesT s).length = Lib.runeCount s + 1 := by
  unfold placesT; rw [List.length_append, placesFrom_len]; rfl
theorem placesFrom_at (s : ByteArray) : ∀ (f pos k : Nat), s.size ≤ pos + f → pos ≤ s.size → (placesFrom s f pos ++ [s.size])[k]? = if k ≤ Lib.runeCountFrom s f pos then some (placeFrom s f pos k) else none
  | 0, pos, k, hf, hp => by
    obtain rfl : pos = s.size := by omega
    have e : Lib.runeCountFrom s 0 s.size = 0 := rfl
    rw [e]
    cases k with
    | zero => rfl
    | succ k => rw [if_neg (by omega)]; rfl
  | f + 1, pos, k, hf, hp => by
    by_cases hlt : pos < s.size
    · have hw := width_pos s pos
      have hi := width_in s pos hlt
      simp only [placesFrom, Lib.runeCountFrom, placeFrom, if_pos hlt, List.cons_append]
      cases k with
      | zero => simp
      | succ k =>
        rw [List.getElem?_cons_succ, placesFrom_at s f _ k (by omega) hi]
        by_cases hk : k ≤ Lib.runeCountFrom s f (pos + (Utf8.decode s pos).2)
        · rw [if_pos hk, if_pos (by omega), if_neg (by omega), Nat.add_sub_cancel]
        · rw [if_neg hk, if_neg (by omega)]
    · obtain rfl : pos = s.size := by omega
      rw [placesFrom_end s _ _ hlt, Lib.runeCountFrom_end s _ _ hlt, placeFrom_end s _ _ _ hlt]
      cases k with
      | zero => rfl
      | succ k => rw [if_neg (by omega)]; rfl
theorem places_at (s : ByteArray) (k : Nat) (h : k ≤ Lib.runeCount s) : (placesT s)[k]? = some (place s k) := by
  have := placesFrom_at s s.size 0 k (by omega) (by omega)
  rw [if_pos (show k ≤ Lib.runeCountFrom s s.size 0 from h)] at this
  exact this
theorem places_le (s : ByteArray) (k : Nat) : place s k ≤ s.size := place_le s k
/-- the slice v holds these numbers in a row of the call's own -/
def pCellsN (l : List Nat) : List Value := l.map fun (n : Nat) => Value.int .i64 (n : Int)
theorem pCellsN_snoc (l : List Nat) (n : Nat) : pCellsN l ++ [.int .i64 (n : Int)] = pCellsN (l ++ [n]) := by simp [pCellsN]
theorem pInfoInt : (Tryz.prog.info? 3).map (fun i => (i.zero, i.size, i.bytes)) = some (some (.int .i64 0), 1, 8) := by kernel_rfl
abbrev PBuf (B : Nat) (v : Value) (l : List Nat) (W0 w : World) : Prop := Lib.OwnBuf B 3 v l.length (pCellsN l) W0 w
theorem PBuf.nil (W0 : World) {w : World} (hb : Below W0.heap.size W0 w) : PBuf W0.heap.size (.slice none 0 0) [] W0 w :=
  ⟨World.ownsRowF_of (World.ownsRow_nil _ _ _ _), hb, hb.size⟩
theorem PBuf.congr {B : Nat} {v : Value} {m : List Nat} {W0 w : World} {n : Nat} {xs : List Value} (h : Lib.OwnBuf B 3 v n xs W0 w) (hn : n = m.length) (hx : xs = pCellsN m) : PBuf B v m W0 w := by
  subst hn hx; exact h
theorem pAppend_int {ops : Array Oper} {rest : List Oper} {o : Oper} {a : Act} {Q : Exit → Act → World → Prop} (hgd : o.guard = none) (s x : Operand) (t : TypeId)
    (ho : o.op = .call { callee := .builtin .append, args := #[s, x], argTypes := #[t, t] })
    (B : Nat) (e : TypeId) (i : TypeInfo) (ht : Tryz.prog.underlying t = some (.slice e)) (hi : Tryz.prog.info? e = some i) (hz : i.zero = some (.int .i64 0)) (hsize : i.size = 1) (hby : i.bytes = 8)
    (v : Value) (n : Nat) (xs : List Value) (hs : a.eval s = v) (W0 w0 : World) (c : Int) (hb : Lib.OwnBuf B e v n xs W0 w0)
    (hx : a.eval x = .slice (some ⟨w0.heap.size, 0, none⟩) 1 1) (hlen : (n + 1) * 8 ≤ 140737488355328)
    (h : ∀ v' w', Lib.OwnBuf B e v' (n + 1) (xs ++ [.int .i64 c]) W0 w' → wpList Tryz.prog ops Q rest (a.put o.dst v') w') : wpList Tryz.prog ops Q (o :: rest) a (w0.alloc (.cells #[.int .i64 c] e)) := by
  have hb' := hb.alloc (.cells #[.int .i64 c] e)
  refine wpList_append_ownF _ hgd s x t ho B e i (.int .i64 0) 1 8 ht hi hz hsize hby rfl (by decide) v n xs hs hb'.1 ⟨w0.heap.size, 0, none⟩ 1 1 [.int .i64 c] hx rfl ?_ ?_ (by unfold maxLen; omega) hlen hb'.2.2 ?_
  · intro j u hj
    match j, hj with
    | 0, hj => simp at hj; subst hj; simp [Addr.add]
    | (j + 1), hj => simp at hj
  · intro u hu; simp at hu; subst hu; rfl
  · intro v' w' ho' hg _
    exact h v' w' (hb'.grown ho' hg)
theorem PBuf.form {B : Nat} {v : Value} {l : List Nat} {W0 w : World} (h : PBuf B v l W0 w) (hl : 0 < l.length) : ∃ g cap, v = .slice (some ⟨g, 0, none⟩) l.length cap ∧ ∀ (i n : Nat), l[i]? = some n → w.cell? ⟨g, i, none⟩ = some (.int .i64 (n : Int)) := by
  rcases h.1.2 with ⟨_, h0⟩ | ⟨g, cap, cur, fz, rfl, _⟩
  · omega
  · refine ⟨g, cap, rfl, fun i n hi => ?_⟩
    have := h.1.cells (g := g) (by simp [Value.ownBlock]) i (.int .i64 (n : Int)) (by simp [pCellsN, hi])
    by_cases hi0 : i = 0
    · subst hi0; simpa [Addr.add] using this
    · simpa [Addr.add, hi0] using this
theorem place_mono (s : ByteArray) (ht : isText s = true) (a b : Nat) (hab : a ≤ b) (hb : b ≤ Lib.runeCount s) : ∃ n, Path s (place s a) n (place s b) ∧ n = b - a := by
  obtain ⟨N, hN, hc⟩ := path_of_text s s.size 0 (by omega) (by omega) ht
  have hN' : Lib.runeCount s = N := hc
  rw [hN'] at hb
  obtain ⟨r, h1, h2⟩ := hN.split b hb
  obtain ⟨q, h3, h4⟩ := h1.split a hab
  have e1 : place s b = r := h1.place s.size (by omega) h2.le
  have e2 : place s a = q := h3.place s.size (by omega) (by have := h4.le; have := h2.le; omega)
  rw [e1, e2]
  exact ⟨b - a, h4, rfl⟩
theorem slice_mid (s : ByteArray) (p q : Nat) (h : p ≤ q) (h2 : q ≤ s.size) : ∀ w, (Instr.slice 9 (.string s) (some (.int .i64 (p : Int))) (some (.int .i64 (q : Int))) none).run Tryz.prog w = .ok (.string (s.extract p q)) w :=
  fun w => by
    have := run_slice_string (P := Tryz.prog) (w := w) (t := 9) (s := s) (k := .i64) (k' := .i64) (i := (p : Int)) (j := (q : Int)) (h := Tryz.underlying9) (h0 := by omega) (h1 := by omega) (h2 := by omega)
    rw [Int.toNat_natCast, Int.toNat_natCast] at this
    exact this
end Go.Proofs.YtjkallelniggpaaGreatDoor
