/-
  The document's depth of a value.
-/
import Derived.Test.YtdgdeognahmpmaaGreatDoorValE
namespace Go.Proofs.YtdgdeognahmpmaaGreatDoor
open Go.RowKit Word Txt
attribute [local go_sem] setCell_drewN cell?_ext frozen?_ext shape?_ext setCell_ext lt_1' ne_1' en_1' le_1' lt_2' ne_2' en_2' le_2' lt_3' ne_3' en_3' le_3' lt_4' ne_4' en_4' le_4' lt_5' ne_5' en_5' le_5' lt_6' ne_6' en_6' le_6' lt_7' ne_7' en_7' le_7' lt_8' ne_8' en_8' le_8' lt_9' ne_9' en_9' le_9' lt_10' ne_10' en_10' le_10' lt_11' ne_11' en_11' le_11' lt_12' ne_12' en_12' le_12'

mutual
theorem depth_le : ∀ v : V, v.depth ≤ v.count
  | .mk k yes neg c s t day l ns => by unfold V.depth V.count; have := depthL_le l; omega
theorem depthL_le : ∀ l : List V, depthL l ≤ countL l
  | [] => Nat.le_refl _
  | v :: r => by
    show max v.depth (depthL r) ≤ v.count + countL r
    have := depth_le v; have := depthL_le r; omega
end
theorem count_mem {v : V} : ∀ {l : List V}, v ∈ l → v.count ≤ countL l
  | u :: r, h => by
    show _ ≤ u.count + countL r
    rcases List.mem_cons.1 h with e | h
    · subst e; omega
    · have := count_mem h; omega
/-- the contract of the document's depth, at a value -/
def DC (v : V) : Prop := ∀ (n : Nat) (w : World) (x : Value), v.At n w x → n ≤ w.heap.size → v.count ≤ 1000 →
  Calls Tryz.prog 79 #[x] w fun e w' => e = .returned (.int .i64 (v.depth : Int)) ∧ Below w.heap.size w w'
set_option maxHeartbeats 4000000 in
theorem depth_step (k : Int) (yes neg : Bool) (c : Nat) (s : Int) (t : ByteArray) (day : Int) (l : List V) (ns : List ByteArray) (ih : ∀ v ∈ l, DC v) : DC (.mk k yes neg c s t day l ns) := by
  intro n w x hx hnw hcnt
  obtain ⟨lv, nv, rfl, ⟨hc, ht, hl, hnl⟩, hL, hN, hsz⟩ := at_mk hx
  obtain ⟨pl, cl, rfl⟩ := hL.shape
  obtain ⟨pn, cn, rfl⟩ := hN.shape
  have hcount : (V.mk k yes neg c s t day l ns).count = countL l + 1 := by unfold V.count; rfl
  have hdepth : (V.mk k yes neg c s t day l ns).depth = depthL l + 1 := by unfold V.depth; rfl
  have hdl := depthL_le l
  rw [hcount] at hcnt
  rw [hdepth]
  have HX := Lib.hid (fun (i : Nat) (hi : i < l.length) w' (hb : Below w.heap.size w w') (x : Value) (h : l[i].At n w' x) => ih l[i] (List.getElem_mem hi) n w' x h (Nat.le_trans hnw hb.size) (by have := count_mem (List.getElem_mem hi); omega))
  clear hx hcount hdepth hc ht hnl hN hsz ih
  obtain ⟨bx, hbx⟩ : ∃ bx, bx = Obj.cells #[.int .i64 k, .bool yes, .bool neg, .int .u64 (hi c : Int), .int .u64 (lo c : Int), .int .i64 s, .string t, .int .i64 day, .slice pl l.length cl, .slice pn ns.length cn] 34 := ⟨_, rfl⟩
  obtain ⟨len, hlen⟩ : ∃ len, l.length = len := ⟨_, rfl⟩
  have HLen := Lib.hid hlen
  rw [hlen] at hl hbx ⊢
  rcases hL with ⟨rfl, hlv⟩ | ⟨g, o, cap, hlv, hgn, hg, hrow⟩
  · clear hlv
    obtain rfl : len = 0 := by rw [← hlen]; rfl
    clear hlen
    go_enter Tryz.func79, Tryz.ntmps79
    go_wp2
    refine wp_loop_rounds 1 ?_
    rw [rounds_succ]
    go_wp2
    go_ret
    exact ⟨by simp [depthL], by (repeat' (first | (with_reducible exact Below.refl _ _) | (with_reducible assumption) | (with_reducible refine Below.alloc ?_ ?_ _) | (with_reducible refine below_drewN ?_ _) | (with_reducible refine below_drew ?_) | (with_reducible refine below_ext ?_ ?_ _ _) | (with_reducible refine Below.setCell ?_ ?_ _) | (simp; done) | (simp; omega) | omega))⟩
  · simp only [Value.slice.injEq] at hlv
    obtain ⟨rfl, -, rfl⟩ := hlv
    have HR := Lib.hid (fun w' (hb : Below w.heap.size w w') => hrow.below (hb.mono hnw) hgn)
    clear hrow hlen
    go_enter Tryz.func79, Tryz.ntmps79
    go_wp2_with fail
    rw [← hbx]
    go_loopw [3, 4] (fun a i wr => ∃ m : Nat, m ≤ len ∧ i = .int .i64 m ∧ a = .int .i64 ((depthL (l.take m) : Nat) : Int) ∧ Below (w.alloc bx).heap.size (w.alloc bx) wr) (fun _ i _ => len - (intOf i).toNat)
    case atStart => exact ⟨0, by omega, rfl, by simp [depthL], Below.refl _ _⟩
    case round =>
      obtain ⟨m, hm, rfl, rfl, hbw⟩ := hrel
      subst hbx
      obtain ⟨osX, dX, rfl⟩ := ext_of_below hbw
      have hb : Below w.heap.size w (ext (w.alloc (.cells #[.int .i64 k, .bool yes, .bool neg, .int .u64 (hi c : Int), .int .u64 (lo c : Int), .int .i64 s, .string t, .int .i64 day, .slice (some ⟨g, o, none⟩) len cl, .slice pn ns.length cn] 34)) osX dX) := by (repeat' (first | (with_reducible exact Below.refl _ _) | (with_reducible assumption) | (with_reducible refine Below.alloc ?_ ?_ _) | (with_reducible refine below_drewN ?_ _) | (with_reducible refine below_drew ?_) | (with_reducible refine below_ext ?_ ?_ _ _) | (with_reducible refine Below.setCell ?_ ?_ _) | (simp; done) | (simp; omega) | omega))
      clear hbw
      by_cases hml : m < len
      · have hi : (m : Int) < len := by omega
        have hmn : m < l.length := by have := HLen.out; omega
        obtain ⟨k', yes', neg', a', b', s', t', day', pl', nl', cl', pn', nn', cn', h0, h1, h2, h3, h4, h5, h6, h7, h8, h9, hat⟩ := (HR.out _ hb).elem m hmn
        have hE := HX.out m hmn _ hb _ hat
        have HT := Lib.hid (show l.take (m + 1) = l.take m ++ [l[m]] by rw [List.take_add_one, List.getElem?_eq_getElem hmn]; rfl)
        have hd1 : depthL (l.take (m + 1)) = max (depthL (l.take m)) l[m].depth := by rw [HT.out, depthL_snoc]
        obtain ⟨da, hda⟩ : ∃ da, da = depthL (l.take m) := ⟨_, rfl⟩
        obtain ⟨db, hdb⟩ : ∃ db, db = l[m].depth := ⟨_, rfl⟩
        rw [← hda, ← hdb] at hd1
        rw [← hda]
        rw [← hdb] at hE
        have HE := Lib.hid hE
        have HD := Lib.hid hd1
        have hmx : max (da : Int) (db : Int) = ((max da db : Nat) : Int) := by omega
        have hgr : g < w.heap.size + 1 + osX.size := by omega
        clear hat hb HX HR hE hd1 hda hdb hdl
        go_wp2_with (first
          | (go_at_call 79; ((with_reducible refine (HE.out).mono ?_); rintro e w1 ⟨rfl, hb1⟩; obtain ⟨osA, dA, rfl⟩ := ext_of_below hb1; clear hb1)))
        go_roundw
        case rel => exact ⟨m + 1, by omega, by go_num, by rw [HD.out], by (repeat' (first | (with_reducible exact Below.refl _ _) | (with_reducible assumption) | (with_reducible refine Below.alloc ?_ ?_ _) | (with_reducible refine below_drewN ?_ _) | (with_reducible refine below_drew ?_) | (with_reducible refine below_ext ?_ ?_ _ _) | (with_reducible refine Below.setCell ?_ ?_ _) | (simp; done) | (simp; omega) | omega))⟩
        case measure => simp [intOf]; omega
      · obtain rfl : m = len := by omega
        have hi : ¬ (m : Int) < m := by omega
        have HT := Lib.hid (show l.take m = l by rw [← HLen.out, List.take_length])
        have HB := Lib.hid hb
        obtain ⟨da, hda⟩ : ∃ da, da = depthL (l.take m) := ⟨_, rfl⟩
        have HD := Lib.hid (show da = depthL l by rw [hda, HT.out])
        have hdw : da ≤ 1000 := by rw [HD.out]; omega
        rw [← hda]
        clear hda hb
        go_wp2
        go_ret
        exact ⟨by rw [← HD.out]; congr 1, HB.out⟩
mutual
theorem depth_any : ∀ v : V, DC v
  | .mk k yes neg c s t day l ns => depth_step k yes neg c s t day l ns (depth_all l)
theorem depth_all : ∀ (l : List V) (v : V), v ∈ l → DC v
  | [], _, h => by cases h
  | u :: r, v, h => (List.mem_cons.1 h).elim (fun e => e ▸ depth_any u) (fun h => depth_all r v h)
end
end Go.Proofs.YtdgdeognahmpmaaGreatDoor
