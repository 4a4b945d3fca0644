/-
  The heap's own Pop; container/heap's Push and Pop.
-/
import Derived.Test.YtdgdeognahmpmaaGrD
namespace Go.Proofs.Ytdgdeognahmpmaa
open Go.RowKit
open Hp (at_ swp)
attribute [local go_sem] setCell_drewN cell?_ext frozen?_ext shape?_ext setCell_ext lt_1' ne_1' en_1' le_1' lt_2' ne_2' en_2' le_2' lt_3' ne_3' en_3' le_3' lt_4' ne_4' en_4' le_4' lt_5' ne_5' en_5' le_5' lt_6' ne_6' en_6' le_6' lt_7' ne_7' en_7' le_7' lt_8' ne_8' en_8' le_8' lt_9' ne_9' en_9' le_9' lt_10' ne_10' en_10' le_10' lt_11' ne_11' en_11' le_11' lt_12' ne_12' en_12' le_12'

theorem Oth.then_ {S T : Nat → Prop} {a b c : World} (h : Oth S a b) (k : Oth T b c) (hT : ∀ j, j < a.heap.size → T j → S j) : Oth S a c :=
  ⟨k.os.trans h.os, k.tape.trans h.tape, k.output.trans h.output, Nat.le_trans h.size k.size, fun i hi hs => (k.block i (Nat.lt_of_lt_of_le hi h.size) (fun e => hs (hT i hi e))).trans (h.block i hi hs)⟩
theorem HC.popped {w : World} {p g cap x : Nat} {m : List Nat} (h : HC w p g cap (m ++ [x])) : HC (w.setCell ⟨p, 0, none⟩ (.slice (some ⟨g, 0, none⟩) m.length cap)) p g cap m := by
  obtain ⟨cur, h1, h2, h3, h4, h5⟩ := h.row
  rw [List.length_append] at h2
  refine ⟨h.ne, by rw [World.size_setCell]; exact h.plt, by rw [World.size_setCell]; exact h.glt, World.cell?_setCell_same w _ _ h.hd, by rw [World.frozen?_setCell]; exact h.hf, by have := h.few; rw [List.length_append] at this; omega, cur, by rw [Below.heap_setCell _ _ _ _ h.ne, h1], by simp at h2; omega, h3, h4, ?_⟩
  have e : (cur.toList.take (m ++ [x]).length).take m.length = ((m ++ [x]).map iv).take m.length := by rw [h5]
  rw [List.take_take, List.length_append, show min m.length (m.length + [x].length) = m.length by simp] at e
  rw [e, List.map_append, List.take_append_of_le_length (by simp), List.take_of_length_le (by simp)]
theorem rlen_any (a : Option Addr) (n c : Nat) (w : World) : Calls Try.prog 26 #[.slice a n c] w fun e w' => e = .returned (.int .i64 (n : Int)) ∧ w = w' := by
  go_enter Try.func26, Try.ntmps26
  go_wp2
  go_ret
  exact ⟨rfl, rfl⟩
set_option maxRecDepth 100000 in
set_option maxHeartbeats 8000000 in
theorem popM_any {w : World} {p g cap x : Nat} {m : List Nat} (h : HC w p g cap (m ++ [x])) :
    Calls Try.prog 47 #[.pointer (some ⟨p, 0, none⟩)] w fun e w' => e = .returned (.iface 3 (.int .i64 (x : Int))) ∧ HC w' p g cap m ∧ Oth (· = p) w w' := by
  obtain ⟨n, hn⟩ : ∃ n, n = m.length := ⟨_, rfl⟩
  have hlen : (m ++ [x]).length = n + 1 := by rw [List.length_append, hn]; rfl
  have c0 := h.hd
  have f0 := h.hf
  have hx := h.cell n (by omega)
  rw [show at_ (m ++ [x]) n = x by rw [Hp.at_of (by omega)]; simp [hn]] at hx
  unfold iv at hx
  have hcap : n + 1 ≤ cap := by obtain ⟨cur, _, h2, _⟩ := h.row; omega
  have hfew : n + 1 ≤ 1000 := by have := h.few; omega
  have HP := Lib.hid h.popped
  rw [← hn] at HP
  rw [hlen] at c0
  have W1 : IntKind.i64.wrap (((n + 1 : Nat) : Int) - 1) = (n : Int) := by rw [IntWalk.i64_in _ (by omega)]; omega
  have W2 : IntKind.i64.wrap ((n : Int) + 1 - 1) = (n : Int) := by rw [IntWalk.i64_in _ (by omega)]; omega
  have W3 : (n : Int) + 1 - 1 = (n : Int) := by omega
  have W4 : IntKind.i64.wrap (n : Int) = (n : Int) := IntWalk.i64_in _ (by omega)
  have hc1 : (n : Int) ≤ (cap : Int) := by omega
  clear hn hlen h
  go_enter Try.func47, Try.ntmps47
  go_wp2
  go_ret
  exact ⟨rfl, HP.out, (Oth.refl (· = p) w).set ⟨p, 0, none⟩ rfl _⟩
set_option maxRecDepth 100000 in
set_option maxHeartbeats 8000000 in
theorem hpush_any {w : World} {p g cap : Nat} {l : List Nat} (h : HC w p g cap l) (hh : Hp.Heap l l.length) (x : Nat) (hl : l.length < 1000) :
    Calls Try.prog 25 #[.iface 40 (.pointer (some ⟨p, 0, none⟩)), .iface 3 (.int .i64 (x : Int))] w fun e w' => e = .returned (.tuple #[]) ∧ ∃ g' cap' l', l'.Perm (l ++ [x]) ∧ Hp.Heap l' l'.length ∧ HC w' p g' cap' l' ∧ (g' = g ∨ w.heap.size ≤ g') ∧ Oth (fun k => k = p ∨ k = g) w w' := by
  have hpM := fun (wx : World) n => meth_ptr rowPush wx p n
  have HPU := Lib.hid (pushM_any h x hl)
  have HLN := Lib.hid (fun (wx : World) (g' cap' : Nat) (l' : List Nat) (hx : HC wx p g' cap' l') n => meth_val rowLen hx.hd n)
  have HUP := Lib.hid (hh.push x)
  have W1 : IntKind.i64.wrap (((l.length + 1 : Nat) : Int) - 1) = (l.length : Int) := by rw [IntWalk.i64_in _ (by omega)]; omega
  have W2 : IntKind.i64.wrap ((l.length : Int) + 1 - 1) = (l.length : Int) := by rw [IntWalk.i64_in _ (by omega)]; omega
  have W3 : (l.length : Int) + 1 - 1 = (l.length : Int) := by omega
  have W4 : IntKind.i64.wrap (l.length : Int) = (l.length : Int) := IntWalk.i64_in _ (by omega)
  have hlen : (l ++ [x]).length = l.length + 1 := by simp
  have HLEN := Lib.hid hlen
  clear h hh hlen
  go_enter Try.func25, Try.ntmps25
  go_wp2_with (first
    | (go_at_call 48; ((with_reducible refine HPU.out.mono ?_); rintro e w1 ⟨rfl, g1, cap1, hc1, hg1, ho1⟩; have HC1 := Lib.hid hc1; have HG1 := Lib.hid hg1; have HO1 := Lib.hid ho1; have hln := HLN.out _ _ _ _ hc1; clear hc1 hg1 ho1))
    | (go_at_call 26; ((with_reducible refine (rlen_any _ _ _ _).mono ?_); rintro e w' ⟨rfl, rfl⟩))
    | (go_at_call 28; ((with_reducible refine (up_any HC1.out l.length (by rw [HLEN.out]; omega) (by rw [HLEN.out]; exact HUP.out)).mono ?_); rintro e w2 ⟨rfl, l2, hp2, hh2, hc2, ho2⟩; have HX := Lib.hid (⟨g1, cap1, l2, hp2, hh2, hc2, HG1.out, HO1.out.then_ ho2 (fun j hj e => by rcases HG1.out with h | h; (exact .inr (e.trans h)); (exfalso; have e2 : j = g1 := e; omega))⟩ : ∃ g' cap' l', l'.Perm (l ++ [x]) ∧ Hp.Heap l' l'.length ∧ HC w2 p g' cap' l' ∧ (g' = g ∨ w.heap.size ≤ g') ∧ Oth (fun k => k = p ∨ k = g) w w2); clear hp2 hh2 hc2 ho2)))
  refine bodyPost_end (results_none rfl _ _ _) rfl ?_
  exact ⟨rfl, HX.out⟩
theorem last_of {l l2 : List Nat} {n : Nat} (hn : l.length = n + 1) (hd : l2.drop n = (swp l 0 n).drop n) : l2 = l2.take n ++ [at_ l 0] := by
  have hs : (swp l 0 n).drop n = [at_ l 0] := by
    have hl : (swp l 0 n).length = n + 1 := by rw [Hp.swp_len, hn]
    rw [List.drop_eq_getElem_cons (by omega), List.drop_of_length_le (by omega), ← Hp.at_of (by omega), Hp.swp_at (by omega) (by omega) n (by omega), if_pos rfl]
  rw [hs] at hd
  rw [← hd, List.take_append_drop]
theorem pop_parts {l l2 : List Nat} {n : Nat} (hn : l.length = n + 1) (hp : (l2.take n).Perm ((swp l 0 n).take n)) (hd : l2.drop n = (swp l 0 n).drop n) (hl : l2.length = (swp l 0 n).length) (hh : Hp.Heap l2 n) :
    (at_ l 0 :: l2.take n).Perm l ∧ Hp.Heap (l2.take n) (l2.take n).length := by
  have hl2 : l2.length = n + 1 := by rw [hl, Hp.swp_len, hn]
  have htl : (l2.take n).length = n := by rw [List.length_take]; omega
  refine ⟨?_, ?_⟩
  · have h1 : (l2.take n ++ [at_ l 0]).Perm (at_ l 0 :: l2.take n) := List.perm_append_singleton _ _
    rw [← last_of hn hd] at h1
    have h2 : l2.Perm (swp l 0 n) := by
      have a := List.Perm.append hp (List.Perm.of_eq hd)
      rw [List.take_append_drop, List.take_append_drop] at a
      exact a
    exact h1.symm.trans (h2.trans (Hp.swp_perm (by omega) (by omega)))
  · rw [htl]
    intro k h0 hk
    have ha : ∀ j, j < n → at_ (l2.take n) j = at_ l2 j := fun j hj => by
      rw [Hp.at_of (by omega), Hp.at_of (by omega), List.getElem_take]
    have hpk : Hp.par k < k := by unfold Hp.par; omega
    rw [ha k hk, ha (Hp.par k) (by omega)]
    exact hh k h0 hk
set_option maxRecDepth 100000 in
set_option maxHeartbeats 8000000 in
theorem hpop_any {w : World} {p g cap : Nat} {l : List Nat} (h : HC w p g cap l) (hh : Hp.Heap l l.length) (h0 : 0 < l.length) :
    Calls Try.prog 27 #[.iface 40 (.pointer (some ⟨p, 0, none⟩))] w fun e w' => e = .returned (.iface 3 (.int .i64 ((at_ l 0 : Nat) : Int))) ∧ ∃ m, (at_ l 0 :: m).Perm l ∧ Hp.Heap m m.length ∧ HC w' p g cap m ∧ Oth (fun k => k = p ∨ k = g) w w' := by
  obtain ⟨n, hn⟩ : ∃ n, l.length = n + 1 := ⟨l.length - 1, by omega⟩
  have hfew : n + 1 ≤ 1000 := by have := h.few; omega
  have hlnM := fun n => meth_val rowLen h.hd n
  have hswM := fun n => meth_val rowSwap h.hd n
  have hsw := swap_any h 0 n (by omega) (by omega)
  rw [hn, show ((0 : Nat) : Int) = 0 from rfl] at hsw
  have HSW := Lib.hid hsw
  have hpM := fun (wx : World) n => meth_ptr rowPop wx p n
  rw [hn] at hh
  have HDN := Lib.hid (hh.pop hn)
  have HN := Lib.hid hn
  have W1 : IntKind.i64.wrap (((n + 1 : Nat) : Int) - 1) = (n : Int) := by rw [IntWalk.i64_in _ (by omega)]; omega
  have W2 : IntKind.i64.wrap ((n : Int) + 1 - 1) = (n : Int) := by rw [IntWalk.i64_in _ (by omega)]; omega
  have W3 : (n : Int) + 1 - 1 = (n : Int) := by omega
  have W4 : IntKind.i64.wrap (n : Int) = (n : Int) := IntWalk.i64_in _ (by omega)
  obtain ⟨x, hx⟩ : ∃ x, x = at_ l 0 := ⟨_, rfl⟩
  rw [← hx]
  have HLST := Lib.hid (show ∀ (l2 : List Nat) (hd2 : l2.drop n = (swp l 0 n).drop n), l2 = l2.take n ++ [x] from fun l2 hd2 => by rw [hx]; exact last_of hn hd2)
  have HPT := Lib.hid (show ∀ (l2 : List Nat) (_ : (l2.take n).Perm ((swp l 0 n).take n)) (_ : l2.drop n = (swp l 0 n).drop n) (_ : l2.length = (swp l 0 n).length) (_ : Hp.Heap l2 n), (x :: l2.take n).Perm l ∧ Hp.Heap (l2.take n) (l2.take n).length from fun l2 a b c d => by rw [hx]; exact pop_parts hn a b c d)
  clear h0 hh hsw h hx
  go_enter Try.func27, Try.ntmps27
  go_wp2_with (first
    | (go_at_call 26; ((with_reducible refine (rlen_any _ _ _ _).mono ?_); rintro e w' ⟨rfl, rfl⟩))
    | (go_at_call 49; ((with_reducible refine HSW.out.mono ?_); rintro e w1 ⟨rfl, hc1, ho1⟩; have HC1 := Lib.hid hc1; have HO1 := Lib.hid ho1; clear hc1 ho1))
    | (go_at_call 29; ((with_reducible refine (down_any HC1.out n (by rw [Hp.swp_len, HN.out]; omega) HDN.out).mono ?_); rintro e w2 ⟨⟨b, rfl⟩, l2, hp2, hd2, hl2, hh2, hc2, ho2⟩; have hc3 := hc2; rw [HLST.out l2 hd2] at hc3; have HPP := Lib.hid (popM_any hc3); have HX := Lib.hid (HPT.out l2 hp2 hd2 hl2 hh2); have HO2 := Lib.hid (HO1.out.trans ho2); clear hp2 hd2 hl2 hh2 hc2 ho2 hc3))
    | (go_at_call 47; ((with_reducible refine HPP.out.mono ?_); rintro e w3 ⟨rfl, hc3, ho3⟩; have HC3 := Lib.hid hc3; have HO3 := Lib.hid ((HO2.out.mono (T := fun k => k = p ∨ k = g) (fun k _ e => .inr e)).trans (ho3.mono (fun k _ e => .inl e))); clear hc3 ho3)))
  go_ret
  exact ⟨rfl, _, HX.out.1, HX.out.2, HC3.out, HO3.out⟩
end Go.Proofs.Ytdgdeognahmpmaa
