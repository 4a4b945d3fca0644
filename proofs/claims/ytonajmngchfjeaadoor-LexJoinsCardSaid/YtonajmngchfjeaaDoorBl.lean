/-
  Texts as lists of bytes: two texts behind each other are a text; a text whose single bytes are replaced by texts is a text.
  What the second form's bound gives; a witness for a row that lists variables, where the world is shaped.
  Contracts of chars.Count and Part, and the law CharsCuts.
-/
import Derived.Test.YtonajmngchfjeaaDoorBa
import Derived.Lib.TrimAscii
import Derived.Lib.SpaceUEq
import Derived.Test.YtonajmngchfjeaaDoorBg
import Derived.Deep.DeepHandedRow
namespace Txt
open Go Go.Lib
theorem decodeN_more (n m b0 b1 b2 b3 c1 c2 c3 : Nat) (w : Nat × Nat) (h : decodeN n b0 b1 b2 b3 = w) (hok : ¬ (w.1 = 65533 ∧ w.2 = 1)) (hw : w.2 ≤ m)
    (e1 : 1 < m → 1 < n → c1 = b1) (e2 : 2 < m → 2 < n → c2 = b2) (e3 : 3 < m → 3 < n → c3 = b3) : decodeN m b0 c1 c2 c3 = w := by
  subst h
  unfold decodeN at hok hw ⊢
  by_cases h0 : b0 < 128
  · simp only [if_pos h0]
  simp only [if_neg h0] at hok hw ⊢
  by_cases h1 : b0 / 32 = 6 ∧ (1 < n ∧ b1 / 64 = 2)
  · simp only [if_pos h1] at hok hw ⊢
    by_cases g : b0 % 32 * 64 + b1 % 64 ≥ 128
    · simp only [if_pos g] at hw ⊢
      rw [e1 (by omega) (by omega)]
      rw [if_pos ⟨h1.1, by omega, h1.2.2⟩, if_pos g]
    · simp only [if_neg g] at hok
      exact absurd ⟨trivial, trivial⟩ hok
  simp only [if_neg h1] at hok hw ⊢
  by_cases h2 : b0 / 16 = 14 ∧ (1 < n ∧ b1 / 64 = 2) ∧ (2 < n ∧ b2 / 64 = 2)
  · simp only [if_pos h2] at hok hw ⊢
    have g32 : ¬ b0 / 32 = 6 := by omega
    rw [if_neg (fun h => g32 h.1)]
    by_cases g : b0 % 16 * 4096 + b1 % 64 * 64 + b2 % 64 ≥ 2048 ∧ (b0 % 16 * 4096 + b1 % 64 * 64 + b2 % 64 < 55296 ∨ (57344 ≤ b0 % 16 * 4096 + b1 % 64 * 64 + b2 % 64 ∧ b0 % 16 * 4096 + b1 % 64 * 64 + b2 % 64 ≤ 1114111))
    · simp only [if_pos g] at hw ⊢
      rw [e1 (by omega) (by omega), e2 (by omega) (by omega)]
      rw [if_pos ⟨h2.1, ⟨by omega, h2.2.1.2⟩, by omega, h2.2.2.2⟩, if_pos g]
    · simp only [if_neg g] at hok
      exact absurd ⟨trivial, trivial⟩ hok
  simp only [if_neg h2] at hok hw ⊢
  by_cases h3 : b0 / 8 = 30 ∧ (1 < n ∧ b1 / 64 = 2) ∧ (2 < n ∧ b2 / 64 = 2) ∧ (3 < n ∧ b3 / 64 = 2)
  · simp only [if_pos h3] at hok hw ⊢
    have g32 : ¬ b0 / 32 = 6 := by omega
    have g16 : ¬ b0 / 16 = 14 := by omega
    rw [if_neg (fun h => g32 h.1), if_neg (fun h => g16 h.1)]
    by_cases g : b0 % 8 * 262144 + b1 % 64 * 4096 + b2 % 64 * 64 + b3 % 64 ≥ 65536 ∧ (b0 % 8 * 262144 + b1 % 64 * 4096 + b2 % 64 * 64 + b3 % 64 < 55296 ∨ (57344 ≤ b0 % 8 * 262144 + b1 % 64 * 4096 + b2 % 64 * 64 + b3 % 64 ∧ b0 % 8 * 262144 + b1 % 64 * 4096 + b2 % 64 * 64 + b3 % 64 ≤ 1114111))
    · simp only [if_pos g] at hw ⊢
      rw [e1 (by omega) (by omega), e2 (by omega) (by omega), e3 (by omega) (by omega)]
      rw [if_pos ⟨h3.1, ⟨by omega, h3.2.1.2⟩, ⟨by omega, h3.2.2.1.2⟩, by omega, h3.2.2.2.2⟩, if_pos g]
    · simp only [if_neg g] at hok
      exact absurd ⟨trivial, trivial⟩ hok
  · simp only [if_neg h3] at hok
    exact absurd ⟨trivial, trivial⟩ hok

/-- a character that may stand in a text begins the list -/
def goodL (l : List UInt8) : Bool := !decide ((decodeL l).1 = 65533 ∧ (decodeL l).2 = 1) && okI ((decodeL l).1 : Int)
inductive TX : List UInt8 → Prop
  | nil : TX []
  | cons {l : List UInt8} (hl : l ≠ []) (hg : goodL l = true) (h : TX (l.drop (decodeL l).2)) : TX l
theorem goodL_drop (s : ByteArray) (p : Nat) : goodL (s.data.toList.drop p) = good s p := by unfold goodL good; rw [decodeL_drop]
theorem TX_of (s : ByteArray) : ∀ (f pos : Nat), s.size ≤ pos + f → textFrom s f pos = true → TX (s.data.toList.drop pos)
  | 0, pos, hf, _ => by rw [List.drop_eq_nil_of_le (by simpa using hf)]; exact .nil
  | f + 1, pos, hf, h => by
    by_cases hp : pos < s.size
    · rw [textFrom_step s f pos hp, Bool.and_eq_true] at h
      have hw := width_pos s pos
      have ih := TX_of s f _ (by omega) h.2
      refine .cons (by simp; omega) (by rw [goodL_drop]; exact h.1) ?_
      rw [decodeL_drop, List.drop_drop]; exact ih
    · rw [List.drop_eq_nil_of_le (by simp; omega)]; exact .nil
theorem of_TX {l : List UInt8} (h : TX l) : ∀ (s : ByteArray) (pos f : Nat), s.data.toList.drop pos = l → s.size ≤ pos + f → textFrom s f pos = true := by
  induction h with
  | nil =>
    intro s pos f e hf
    have : s.size ≤ pos := by simpa using e
    exact textFrom_end s f pos (by omega)
  | @cons l hl hg h ih =>
    intro s pos f e hf
    have hp : pos < s.size := by
      apply Nat.lt_of_not_le
      intro h2
      exact hl (by rw [← e]; simp; omega)
    cases f with
    | zero => omega
    | succ f =>
      have hw := width_pos s pos
      rw [← e, goodL_drop] at hg
      have e2 : decodeL l = Utf8.decode s pos := by rw [← e, decodeL_drop]
      rw [textFrom_step s f pos hp, hg, ih s (pos + (Utf8.decode s pos).2) f (by rw [e2, ← e, List.drop_drop]) (by omega)]
      rfl
theorem isText_TX (s : ByteArray) : isText s = true ↔ TX s.data.toList := by
  constructor
  · intro h
    have := TX_of s s.size 0 (by omega) h
    rwa [List.drop_zero] at this
  · intro h
    exact of_TX h s 0 s.size (by rw [List.drop_zero]) (by omega)
theorem goodL_ok {l : List UInt8} (h : goodL l = true) : ¬ ((decodeL l).1 = 65533 ∧ (decodeL l).2 = 1) ∧ okI ((decodeL l).1 : Int) = true := by
  unfold goodL at h
  rw [Bool.and_eq_true, Bool.not_eq_true', decide_eq_false_iff_not] at h
  exact h
theorem decodeL_more (l b : List UInt8) (hl : l ≠ []) (hg : goodL l = true) : decodeL (l ++ b) = decodeL l := by
  have hp : 0 < l.length := List.length_pos_iff.2 hl
  have hle := decodeL_le l hl
  have h0 : (l ++ b).getD 0 0 = l.getD 0 0 := by simp [List.getD_eq_getElem?_getD, List.getElem?_append_left hp]
  rw [decodeL_N (l ++ b), h0]
  refine decodeN_more l.length (l ++ b).length _ (l.getD 1 0).toNat (l.getD 2 0).toNat (l.getD 3 0).toNat _ _ _ _ (decodeL_N l).symm (goodL_ok hg).1 (by rw [List.length_append]; omega) ?_ ?_ ?_
  all_goals (intro _ h; simp [List.getD_eq_getElem?_getD, List.getElem?_append_left h])
theorem decodeL_take (l : List UInt8) (hl : l ≠ []) (hg : goodL l = true) : decodeL (l.take (decodeL l).2) = decodeL l := by
  have hp : 0 < l.length := List.length_pos_iff.2 hl
  have hle := decodeL_le l hl
  have hw := decodeL_width l
  have hlen : (l.take (decodeL l).2).length = (decodeL l).2 := by rw [List.length_take]; omega
  have h0 : (l.take (decodeL l).2).getD 0 0 = l.getD 0 0 := by rw [List.getD_eq_getElem?_getD, List.getElem?_take_of_lt (by omega), ← List.getD_eq_getElem?_getD]
  rw [decodeL_N (l.take (decodeL l).2), h0, hlen]
  refine decodeN_more l.length (decodeL l).2 _ (l.getD 1 0).toNat (l.getD 2 0).toNat (l.getD 3 0).toNat _ _ _ _ (decodeL_N l).symm (goodL_ok hg).1 (Nat.le_refl _) ?_ ?_ ?_
  all_goals (intro h _; simp [List.getD_eq_getElem?_getD, h])
theorem TX.append {a b : List UInt8} (ha : TX a) (hb : TX b) : TX (a ++ b) := by
  induction ha with
  | nil => exact hb
  | @cons l hl hg h ih =>
    have e := decodeL_more l b hl hg
    refine .cons (by simp [hl]) (by unfold goodL at hg ⊢; rw [e]; exact hg) ?_
    rw [e, List.drop_append_of_le_length (decodeL_le l hl)]
    exact ih
theorem TX.ascii {c : UInt8} (h : c.toNat < 128) (hok : okI (c.toNat : Int) = true) : TX [c] := by
  have e := decodeL_ascii c [] h
  refine .cons (by simp) ?_ ?_
  · unfold goodL; rw [e, hok]
    simp
    omega
  · rw [e]; exact .nil
theorem goodL_take {l : List UInt8} (hl : l ≠ []) (hg : goodL l = true) : TX (l.take (decodeL l).2) := by
  have e := decodeL_take l hl hg
  have hw := decodeL_width l
  have hp : 0 < l.length := List.length_pos_iff.2 hl
  have hle := decodeL_le l hl
  have hlen : (l.take (decodeL l).2).length = (decodeL l).2 := by rw [List.length_take]; omega
  refine .cons (by intro h2; rw [h2] at hlen; simp at hlen; omega) (by unfold goodL at hg ⊢; rw [e]; exact hg) ?_
  rw [e, List.drop_eq_nil_of_le (by rw [List.length_take]; omega)]
  exact .nil
theorem wide_bytes {l : List UInt8} (h0 : 128 ≤ (l.getD 0 0).toNat) : ∀ c ∈ l.take (decodeL l).2, 128 ≤ c.toNat := by
  intro c hc
  obtain ⟨i, hi, e⟩ := List.getElem_of_mem hc
  rw [List.length_take] at hi
  rw [List.getElem_take] at e
  obtain ⟨c1, c2, c3, c4⟩ := decodeN_conts l.length (l.getD 0 0).toNat (l.getD 1 0).toNat (l.getD 2 0).toNat (l.getD 3 0).toNat
  rw [← decodeL_N] at c1 c2 c3 c4
  have e2 : l.getD i 0 = c := by rw [List.getD_eq_getElem?_getD, List.getElem?_eq_getElem (by omega)]; exact e
  rw [← e2]
  match i, hi with
  | 0, _ => exact h0
  | 1, h => have := (c1 (by omega)).1; omega
  | 2, h => have := (c2 (by omega)).1; omega
  | 3, h => have := (c3 (by omega)).1; omega
  | (i + 4), h => omega
theorem flat_self {f : UInt8 → List UInt8} : ∀ {l : List UInt8}, (∀ c ∈ l, f c = [c]) → l.flatMap f = l
  | [], _ => rfl
  | c :: r, h => by
    rw [List.flatMap_cons, h c (by simp), flat_self (l := r) (fun d hd => h d (by simp [hd]))]
    rfl
/-- single bytes replaced by texts -/
theorem TX.flat {f : UInt8 → List UInt8} (hf : ∀ c : UInt8, 128 ≤ c.toNat → f c = [c]) (hs : ∀ c : UInt8, c.toNat < 128 → okI (c.toNat : Int) = true → TX (f c)) {l : List UInt8} (h : TX l) : TX (l.flatMap f) := by
  induction h with
  | nil => exact .nil
  | @cons l hl hg h ih =>
    have e : l.flatMap f = (l.take (decodeL l).2).flatMap f ++ (l.drop (decodeL l).2).flatMap f := by rw [← List.flatMap_append, List.take_append_drop]
    rw [e]
    refine .append ?_ ih
    by_cases h0 : 128 ≤ (l.getD 0 0).toNat
    · rw [flat_self (fun c hc => hf c (wide_bytes h0 c hc))]
      exact goodL_take hl hg
    · cases l with
      | nil => exact absurd rfl hl
      | cons c r =>
        have h0' : c.toNat < 128 := by simp at h0; omega
        have e1 := decodeL_ascii c r h0'
        have hok := (goodL_ok hg).2
        rw [e1] at hok ⊢
        simp only [List.take_succ_cons, List.take_zero, List.flatMap_cons, List.flatMap_nil, List.append_nil]
        exact hs c h0' hok
end Txt
namespace Go.Proofs.YtonajmngchfjeaaDoor
open Go.RowKit

theorem bulk_part {H : Type} {d : DataW H} {l : List (DataW H)} (h : d ∈ l) : Rows.uptoBulk d ≤ Rows.uptoBulkAll l := by
  induction l with
  | nil => cases h
  | cons x r ih =>
    simp only [Rows.uptoBulkAll]
    cases List.mem_cons.1 h with
    | inl e => subst e; omega
    | inr e => have := ih e; omega
theorem upto_string {H : Type} {d : DataW H} {l : List (DataW H)} {s : ByteArray} (hd : d = .lit (.string s.data.toList)) (hk : Rows.uptoSmall H l = true) (hm : d ∈ l) : s.size ≤ 1048576 := by
  have h1 := of_decide_eq_true hk
  have h2 := bulk_part hm
  subst hd
  simp only [Rows.uptoBulk] at h2
  rw [← Lib.size_eq] at h2
  omega
theorem int_wf {x : Int} (h : (Lit.int .i64 x).wf = true) : -9223372036854775808 ≤ x ∧ x ≤ 9223372036854775807 := by
  simpa [Lit.wf, IntKind.min, IntKind.max, IntKind.signed, IntKind.bits] using h
section
variable {H : Type} {enc : TypeId × Value → H}
theorem witness_row_shaped {C : Checked} {os : Os} {f : FuncId} {fn : Func} {s : OpenSpec} {conds : List PathCond} {apart : Bool} {laid : List (String × DataW Unit)} (modest : Bool) (w0 : World) (args : Array Value) (hos : w0.os = os)
    (hsh : (w0.forCall (fun _ _ => 0) ⟨#[], args, []⟩).Shaped C.prog)
    (hok : Input.okWideB C.prog (w0.forCall (fun _ _ => 0) ⟨#[], args, []⟩) f ⟨#[], args, []⟩ = true)
    (hrow : s.preRow enc C.prog fn conds apart laid (w0.forCall (fun _ _ => 0) ⟨#[], args, []⟩).memory args) :
    ∃ (w : World) (tape : Tape) (i : Input), w.os = os ∧ (w.forCall tape i).Shaped C.prog ∧ i.vars = [] ∧ Input.okWide C.prog (w.forCall tape i) .any w.heap.size f i ∧
      s.preRow enc C.prog fn conds apart laid (w.forCall tape i).memory i.args ∧ ({ modest := modest } : Assume).holds C.prog (lone (Frame.enter C.prog f i.args .normal) [] (w.forCall tape i)) :=
  ⟨w0, fun _ _ => 0, ⟨#[], args, []⟩, hos, hsh, (Input.okWide_of_okWideB (base := 0) hok).1, (Input.okWide_of_okWideB hok).2, hrow, by
    simp only [Assume.holds]
    exact ⟨by simp, by simp, fun _ => Modest.zero, by simp, by simp⟩⟩
end
end Go.Proofs.YtonajmngchfjeaaDoor
namespace Go.Proofs.YtonajmngchfjeaaDoor
open Go.RowKit Txt
attribute [local go_sem] setCell_drewN cell?_ext frozen?_ext shape?_ext setCell_ext lt_1' ne_1' en_1' le_1' lt_2' ne_2' en_2' le_2' lt_3' ne_3' en_3' le_3' lt_4' ne_4' en_4' le_4' lt_5' ne_5' en_5' le_5' lt_6' ne_6' en_6' le_6' lt_7' ne_7' en_7' le_7' lt_8' ne_8' en_8' le_8' lt_9' ne_9' en_9' le_9' lt_10' ne_10' en_10' le_10' lt_11' ne_11' en_11' le_11' lt_12' ne_12' en_12' le_12'

theorem clone_any (s : ByteArray) (w : World) (hs : s.size ≤ 140737488351232) :
    Calls Tryd.prog 22 #[.string s] w fun e w' => e = .returned (.string s) ∧ Below w.heap.size w w' := by
  have hC := Tryd.stringslite_Clone s w (by omega)
  have HC := Lib.hid hC
  clear hC
  go_enter Tryd.func22, Tryd.ntmps22
  go_wp2_with (go_at_call 27; ((with_reducible refine (HC.out).mono ?_); rintro e w1 ⟨rfl, hb1⟩; obtain ⟨osA, dA, rfl⟩ := ext_of_below hb1; clear hb1))
  go_ret
  exact ⟨rfl, by (repeat' (first | (with_reducible exact Below.refl _ _) | (with_reducible assumption) | (with_reducible refine Below.alloc ?_ ?_ _) | (with_reducible refine below_drewN ?_ _) | (with_reducible refine below_drew ?_) | (with_reducible refine below_ext ?_ ?_ _ _) | (with_reducible refine Below.setCell ?_ ?_ _) | (simp; done) | (simp; omega) | omega))⟩
theorem maxLen_of {n : Nat} (h : n ≤ 140737488351232) : n ≤ maxLen := by unfold maxLen; omega
/-- so many characters behind so many others -/
def partB (s : ByteArray) (skip n : Nat) : ByteArray := (s.extract (place s skip) s.size).extract 0 (place (s.extract (place s skip) s.size) n)
theorem slice_from (s : ByteArray) (p : Nat) (h : p ≤ s.size) : ∀ w, (Instr.slice 9 (.string s) (some (.int .i64 (p : Int))) none none).run Tryd.prog w = .ok (.string (s.extract p s.size)) w :=
  fun w => by
    have := run_slice_string_l (w := w) (P := Tryd.prog) (t := 9) (s := s) Tryd.underlying9 (kl := .i64) (l := (p : Int)) (h0 := by omega) (h1 := by omega)
    rw [Int.toNat_natCast] at this
    exact this
theorem slice_to (s : ByteArray) (p : Nat) (h : p ≤ s.size) : ∀ w, (Instr.slice 9 (.string s) none (some (.int .i64 (p : Int))) none).run Tryd.prog w = .ok (.string (s.extract 0 p)) w :=
  fun w => by
    have := run_slice_string_h (w := w) (P := Tryd.prog) (t := 9) (s := s) Tryd.underlying9 (kh := .i64) (h := (p : Int)) (h0 := by omega) (h2 := by omega)
    rw [Int.toNat_natCast] at this
    exact this
/-- how many characters are passed over -/
def Skip (s : ByteArray) (from' : Int) (skip : Nat) : Prop := (0 < from' ∧ (skip : Int) = from' - 1) ∨ (from' < 0 ∧ (skip : Int) = max ((Lib.runeCount s : Int) + from') 0)
/-- a text is put together again; what is counted -/
theorem part_first (s : ByteArray) (n : Nat) : partB s 0 n = s.extract 0 (place s n) := by
  unfold partB
  rw [place_zero]
  have e : s.extract 0 s.size = s := by
    apply ByteArray.ext
    apply Array.ext'
    rw [ext_data, List.drop_zero, List.take_of_length_le (by simp)]
  rw [e]
theorem part_rest (s : ByteArray) (n N : Nat) (hN : Lib.runeCount (s.extract (place s n) s.size) ≤ N) : partB s n N = s.extract (place s n) s.size := by
  unfold partB
  rw [place_all _ N hN]
  apply ByteArray.ext
  apply Array.ext'
  rw [ext_data, List.drop_zero, List.take_of_length_le (by simp)]
end Go.Proofs.YtonajmngchfjeaaDoor
