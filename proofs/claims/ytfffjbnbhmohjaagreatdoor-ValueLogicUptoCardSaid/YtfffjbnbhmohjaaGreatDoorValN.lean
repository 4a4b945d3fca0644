/-
  A number as a value; 12 printed: what the statements on values ask first.
-/
import Derived.Test.YtfffjbnbhmohjaaGreatDoorValE
import Derived.Lib.BufSteps
import Derived.Laws.BytesArg
import Derived.Laws.IdiomStrings
import Derived.OwnWalk
namespace Go.Proofs.YtfffjbnbhmohjaaGreatDoor
open Go.RowKit Word Txt
attribute [local go_sem] setCell_drewN cell?_ext frozen?_ext shape?_ext setCell_ext lt_1' ne_1' en_1' le_1' lt_2' ne_2' en_2' le_2' lt_3' ne_3' en_3' le_3' lt_4' ne_4' en_4' le_4' lt_5' ne_5' en_5' le_5' lt_6' ne_6' en_6' le_6' lt_7' ne_7' en_7' le_7' lt_8' ne_8' en_8' le_8' lt_9' ne_9' en_9' le_9' lt_10' ne_10' en_10' le_10' lt_11' ne_11' en_11' le_11' lt_12' ne_12' en_12' le_12'

/-- a small whole number as a value -/
abbrev NumC (n : Int) : Value := .agg #[.int .i64 2, .bool false, .bool false, .int .u64 0, .int .u64 n, .int .i64 0, .string ⟨#[]⟩, .int .i64 0, .slice none 0 0, .slice none 0 0]
def NumV (n : Nat) : V := .mk 2 false false n 0 ⟨#[]⟩ 0 [] []
theorem numV_at (n : Nat) (hn : n < 18446744073709551616) (b : Nat) (w : World) : (NumV n).At b w (NumC (n : Int)) := by
  unfold NumV V.At
  refine ⟨.slice none 0 0, .slice none 0 0, ?_, ⟨by unfold top2; omega, by decide, by simp, by simp⟩, .inl ⟨rfl, none, 0, rfl⟩, .inl ⟨rfl, none, 0, rfl⟩, by simp⟩
  have h1 : hi n = 0 := by unfold hi; omega
  have h2 : lo n = n := by unfold lo; omega
  unfold NumC VC
  rw [h1, h2]
  rfl
theorem numV_form (n : Nat) (hn : n < 18446744073709551616) : (NumV n).form = true := by
  unfold NumV V.form
  rw [soundB_is, if_pos rfl]
  have h1 : formB false n 0 = true := form_mk (S := 0) (by omega) (by omega) (by simp) (by simp)
  rw [h1]
  unfold bareB formL
  simp
  rfl
theorem numV_code (n : Nat) (hn : n < 18446744073709551616) : (NumV n).code = 0 := by
  refine code_form ?_ ?_ (numV_form n hn)
  · unfold NumV V.count countL; omega
  · unfold NumV V.depth depthL; omega
theorem num_any (n : Int) (w : World) : Calls Tryz.prog 24 #[.int .u64 n] w fun e w' => e = .returned (NumC n) ∧ Below w.heap.size w w' := by
  go_enter Tryz.func24, Tryz.ntmps24
  go_wp2
  go_returns
  exact ⟨rfl, by (repeat' (first | (with_reducible exact Below.refl _ _) | (with_reducible assumption) | (with_reducible refine Below.alloc ?_ ?_ _) | (with_reducible refine below_drewN ?_ _) | (with_reducible refine below_drew ?_) | (with_reducible refine below_ext ?_ ?_ _ _) | (with_reducible refine Below.setCell ?_ ?_ _) | (simp; done) | (simp; omega) | omega))⟩
set_option maxRecDepth 100000 in
theorem small_12 (w : World) : Calls Tryz.prog 143 #[.int .i64 12] w fun e w' => e = .returned (.string ⟨#[49, 50]⟩) ∧ w = w' := by
  go_enter Tryz.func143, Tryz.ntmps143
  go_wp2
  go_ret
  exact ⟨by congr 1, rfl⟩
theorem formatInner_12 (w : World) : Calls Tryz.prog 134 #[.int .u64 12, .int .i64 10] w fun e w' => e = .returned (.string ⟨#[49, 50]⟩) ∧ w = w' := by
  have HS := Lib.hid (fun w => small_12 w)
  go_enter Tryz.func134, Tryz.ntmps134
  go_wp2_with (first
    | (go_at_call 143; ((with_reducible refine (HS.out _).mono ?_); rintro e w' ⟨rfl, rfl⟩)))
  go_ret
  exact ⟨rfl, rfl⟩
theorem format_12 (w : World) : Calls Tryz.prog 112 #[.int .u64 12, .int .i64 10] w fun e w' => e = .returned (.string ⟨#[49, 50]⟩) ∧ w = w' := by
  have HS := Lib.hid (fun w => formatInner_12 w)
  go_enter Tryz.func112, Tryz.ntmps112
  go_wp2_with (first
    | (go_at_call 134; ((with_reducible refine (HS.out _).mono ?_); rintro e w' ⟨rfl, rfl⟩)))
  go_ret
  exact ⟨rfl, rfl⟩
theorem text_12 (w : World) : Calls Tryz.prog 90 #[.agg #[.int .u64 0, .int .u64 12]] w fun e w' => e = .returned (.string ⟨#[49, 50]⟩) ∧ Below w.heap.size w w' := by
  have HS := Lib.hid (fun w => format_12 w)
  have hcat : (⟨#[49, 50]⟩ : ByteArray) ++ (⟨#[]⟩ : ByteArray) = ⟨#[49, 50]⟩ := by rfl
  go_enter Tryz.func90, Tryz.ntmps90
  go_wp2
  refine wp_loop_rounds 1 ?_
  rw [rounds_succ]
  go_wp2_with (first
    | (go_at_call 112; ((with_reducible refine (HS.out _).mono ?_); rintro e w' ⟨rfl, rfl⟩)))
  go_ret
  exact ⟨by rw [← hcat]; rfl, by (repeat' (first | (with_reducible exact Below.refl _ _) | (with_reducible assumption) | (with_reducible refine Below.alloc ?_ ?_ _) | (with_reducible refine below_drewN ?_ _) | (with_reducible refine below_drew ?_) | (with_reducible refine below_ext ?_ ?_ _ _) | (with_reducible refine Below.setCell ?_ ?_ _) | (simp; done) | (simp; omega) | omega))⟩
theorem dprint_12 (w : World) (ht : Tens w) : Calls Tryz.prog 67 #[.agg #[.bool false, .int .u64 0, .int .u64 12, .int .i64 0]] w fun e w' => e = .returned (.tuple #[.string ⟨#[49, 50]⟩, .int .i64 0]) ∧ Below w.heap.size w w' := by
  have h0 : formB false 12 0 = true := form_mk (S := 0) (by omega) (by omega) (by simp) (by simp)
  have h1 : ∀ w, Tens w → Calls Tryz.prog 62 #[.agg #[.bool false, .int .u64 0, .int .u64 12, .int .i64 0]] w fun e w' => e = .returned (.bool true) ∧ Below w.heap.size w w' := fun w hT => form_yes h0 w hT
  have HF := Lib.hid (fun w' (hb : Below w.heap.size w w') => h1 w' (ht.below hb))
  have HT := Lib.hid (fun w => text_12 w)
  have hcat : (⟨#[]⟩ : ByteArray) ++ (⟨#[49, 50]⟩ : ByteArray) = ⟨#[49, 50]⟩ := by rfl
  clear h0 h1 ht
  go_enter Tryz.func67, Tryz.ntmps67
  go_wp2_with (first
    | (go_at_call 62; ((with_reducible refine (HF.out _ (by (repeat' (first | (with_reducible exact Below.refl _ _) | (with_reducible assumption) | (with_reducible refine Below.alloc ?_ ?_ _) | (with_reducible refine below_drewN ?_ _) | (with_reducible refine below_drew ?_) | (with_reducible refine below_ext ?_ ?_ _ _) | (with_reducible refine Below.setCell ?_ ?_ _) | (simp; done) | (simp; omega) | omega)))).mono ?_); rintro e w1 ⟨rfl, hb1⟩; obtain ⟨osA, dA, rfl⟩ := ext_of_below hb1; clear hb1))
    | (go_at_call 90; ((with_reducible refine (HT.out _).mono ?_); rintro e w1 ⟨rfl, hb1⟩; obtain ⟨osB, dB, rfl⟩ := ext_of_below hb1; clear hb1)))
  go_ret2
  exact ⟨by rw [← hcat]; rfl, by (repeat' (first | (with_reducible exact Below.refl _ _) | (with_reducible assumption) | (with_reducible refine Below.alloc ?_ ?_ _) | (with_reducible refine below_drewN ?_ _) | (with_reducible refine below_drew ?_) | (with_reducible refine below_ext ?_ ?_ _ _) | (with_reducible refine Below.setCell ?_ ?_ _) | (simp; done) | (simp; omega) | omega))⟩
theorem infoB7 : (Tryz.prog.info? 5).map (fun i => (i.zero, i.size, i.bytes)) = some (some (.int .u8 0), 1, 1) := by kernel_rfl
/-- the slice v holds the bytes l in a row of the call's own -/
abbrev Buf7 (B : Nat) (v : Value) (l : List UInt8) (W0 w : World) : Prop := Lib.OwnBuf B 5 v l.length (Lib.byteCells l) W0 w
theorem Buf7.nil (W0 : World) {w : World} (hb : Below W0.heap.size W0 w) : Buf7 W0.heap.size (.slice none 0 0) [] W0 w :=
  ⟨World.ownsRowF_of (World.ownsRow_nil _ _ _ _), hb, hb.size⟩
theorem Buf7.conv {B : Nat} {v : Value} {l : List UInt8} {W0 w : World} (h : Buf7 B v l W0 w) : (convert 54 9 v).run Tryz.prog w = .ok (.string ⟨l.toArray⟩) w := by
  have hh := h
  obtain ⟨⟨hlen, hv⟩, _, _⟩ := hh
  rcases hv with ⟨rfl, h0⟩ | ⟨g, cap, cur, fz, rfl, _⟩
  · have : l = [] := List.eq_nil_of_length_eq_zero h0
    subst this
    exact run_convert_bytes_nil w 54 5 Tryz.underlying54 Tryz.underlying5 0 0 9 Tryz.underlying9
  · exact run_convert_bytes_back w 54 9 5 ⟨g, 0, none⟩ cap l Tryz.underlying54 Tryz.underlying5 Tryz.underlying9 (fun j hj => h.1.cells (g := g) (by simp [Value.ownBlock]) j _ (by simp [Lib.byteCells, hj]))
theorem ptext_12 (w : World) (ht : Tens w) : Calls Tryz.prog 45 #[.slice none 0 0, NumC 12] w fun e w' => ∃ v, e = .returned v ∧ Buf7 w.heap.size v [49, 50] w w' := by
  have HP := Lib.hid (fun w' (hb : Below w.heap.size w w') => dprint_12 w' (ht.below hb))
  have HB := Lib.hid (fun w' (hb : Below w.heap.size w w') => Buf7.nil w hb)
  obtain ⟨i0, hi, hz0, hz1, hz2⟩ := info_parts infoB7
  clear ht
  go_enter Tryz.func45, Tryz.ntmps45
  go_wp2_with (first
    | (go_at_call 67; ((with_reducible refine (HP.out _ (by (repeat' (first | (with_reducible exact Below.refl _ _) | (with_reducible assumption) | (with_reducible refine Below.alloc ?_ ?_ _) | (with_reducible refine below_drewN ?_ _) | (with_reducible refine below_drew ?_) | (with_reducible refine below_ext ?_ ?_ _ _) | (with_reducible refine Below.setCell ?_ ?_ _) | (simp; done) | (simp; omega) | omega)))).mono ?_); rintro e w1 ⟨rfl, hb1⟩; obtain ⟨osA, dA, rfl⟩ := ext_of_below hb1; clear hb1))
    | (at_builtin; refine Lib.wpList_append_text rfl _ _ 54 9 rfl w.heap.size 5 i0 Tryz.underlying54 Tryz.underlying9 hi hz0 hz1 hz2 _ _ _ rfl w (HB.out _ (by (repeat' (first | (with_reducible exact Below.refl _ _) | (with_reducible assumption) | (with_reducible refine Below.alloc ?_ ?_ _) | (with_reducible refine below_drewN ?_ _) | (with_reducible refine below_drew ?_) | (with_reducible refine below_ext ?_ ?_ _ _) | (with_reducible refine Below.setCell ?_ ?_ _) | (simp; done) | (simp; omega) | omega)))) _ rfl (by decide) ?_; intro _ _ hb))
  go_ret
  exact ⟨_, rfl, hb⟩
theorem print_12 (w : World) (ht : Tens w) (hU : Tabs w) : Calls Tryz.prog 25 #[NumC 12] w fun e w' => e = .returned (.tuple #[.string ⟨#[49, 50]⟩, .int .i64 0]) ∧ Below w.heap.size w w' := by
  have hC : ∀ w', Below w.heap.size w w' → Calls Tryz.prog 8 #[NumC 12] w' fun e w'' => e = .returned (.int .i64 0) ∧ Below w'.heap.size w' w'' := fun w' hb => by
    have h := vcheck_any (NumV 12) w'.heap.size w' _ (numV_at 12 (by omega) _ w') (Nat.le_refl _) (ht.below hb) (hU.below hb)
    rwa [numV_code 12 (by omega)] at h
  have HC := Lib.hid hC
  have HP := Lib.hid (fun w' (hb : Below w.heap.size w w') => ptext_12 w' (ht.below hb))
  clear hC ht hU
  go_enter Tryz.func25, Tryz.ntmps25
  go_wp2_with (first
    | (go_at_call 8; ((with_reducible refine (HC.out _ (by (repeat' (first | (with_reducible exact Below.refl _ _) | (with_reducible assumption) | (with_reducible refine Below.alloc ?_ ?_ _) | (with_reducible refine below_drewN ?_ _) | (with_reducible refine below_drew ?_) | (with_reducible refine below_ext ?_ ?_ _ _) | (with_reducible refine Below.setCell ?_ ?_ _) | (simp; done) | (simp; omega) | omega)))).mono ?_); rintro e w1 ⟨rfl, hb1⟩; obtain ⟨osA, dA, rfl⟩ := ext_of_below hb1; clear hb1))
    | (go_at_call 45; (with_reducible refine (HP.out _ (by (repeat' (first | (with_reducible exact Below.refl _ _) | (with_reducible assumption) | (with_reducible refine Below.alloc ?_ ?_ _) | (with_reducible refine below_drewN ?_ _) | (with_reducible refine below_drew ?_) | (with_reducible refine below_ext ?_ ?_ _ _) | (with_reducible refine Below.setCell ?_ ?_ _) | (simp; done) | (simp; omega) | omega)))).mono ?_); rintro e w1 ⟨v, rfl, hbuf⟩; obtain ⟨osB, dB, rfl⟩ := ext_of_below hbuf.2.1; have hconv := hbuf.conv; clear hbuf))
  all_goals
    go_ret2
    exact ⟨rfl, by (repeat' (first | (with_reducible exact Below.refl _ _) | (with_reducible assumption) | (with_reducible refine Below.alloc ?_ ?_ _) | (with_reducible refine below_drewN ?_ _) | (with_reducible refine below_drew ?_) | (with_reducible refine below_ext ?_ ?_ _ _) | (with_reducible refine Below.setCell ?_ ?_ _) | (simp; done) | (simp; omega) | omega))⟩
end Go.Proofs.YtfffjbnbhmohjaaGreatDoor
