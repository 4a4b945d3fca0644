/-
  How far a value goes: the program counts its parts and its depth, and stops where there are too many; Check.
-/
import Derived.Test.YtjkallelniggpaaGreatDoorBk
import Derived.Maps.AppendAt
import Derived.Deep.AppendLies
namespace Go.Proofs.YtjkallelniggpaaGreatDoor
open Go.RowKit Word Txt
attribute [local go_sem] setCell_drewN cell?_ext frozen?_ext shape?_ext setCell_ext lt_1' ne_1' en_1' le_1' lt_2' ne_2' en_2' le_2' lt_3' ne_3' en_3' le_3' lt_4' ne_4' en_4' le_4' lt_5' ne_5' en_5' le_5' lt_6' ne_6' en_6' le_6' lt_7' ne_7' en_7' le_7' lt_8' ne_8' en_8' le_8' lt_9' ne_9' en_9' le_9' lt_10' ne_10' en_10' le_10' lt_11' ne_11' en_11' le_11' lt_12' ne_12' en_12' le_12'

theorem countL_snoc : ∀ (l : List V) (v : V), countL (l ++ [v]) = countL l + v.count
  | [], v => by show v.count + 0 = 0 + v.count; omega
  | u :: r, v => by show u.count + countL (r ++ [v]) = u.count + countL r + v.count; rw [countL_snoc r v]; omega
theorem depthL_snoc : ∀ (l : List V) (v : V), depthL (l ++ [v]) = max (depthL l) v.depth
  | [], v => by show max v.depth 0 = max 0 v.depth; omega
  | u :: r, v => by show max u.depth (depthL (r ++ [v])) = max (max u.depth (depthL r)) v.depth; rw [depthL_snoc r v]; omega
theorem countL_take (l : List V) (m : Nat) : countL (l.take m) ≤ countL l := by
  induction l generalizing m with
  | nil => simp
  | cons u r ih =>
    cases m with
    | zero => show 0 ≤ _; omega
    | succ m => show u.count + countL (r.take m) ≤ u.count + countL r; have := ih m; omega
/-- nothing but block g has turned, and it holds these two numbers -/
structure XW (g : Nat) (w w' : World) (p q : Nat) : Prop where
  grown : w.grownBy w' (some g)
  c0 : w'.cell? ⟨g, 0, none⟩ = some (.int .i64 (p : Int))
  c1 : w'.cell? ⟨g, 1, none⟩ = some (.int .i64 (q : Int))
  f0 : w'.frozen? ⟨g, 0, none⟩ = false
  f1 : w'.frozen? ⟨g, 1, none⟩ = false
theorem grown_setCell (w : World) (a : Addr) (u : Value) : w.grownBy (w.setCell a u) (some a.block) :=
  ⟨rfl, rfl, rfl, by simp, fun k _ hk => Below.heap_setCell w a u k (fun e => hk (by rw [e]))⟩
theorem XW.set0 {g : Nat} {w w' : World} {p q : Nat} (h : XW g w w' p q) (p' : Nat) : XW g w (w'.setCell ⟨g, 0, none⟩ (.int .i64 (p' : Int))) p' q :=
  ⟨h.grown.trans (grown_setCell _ ⟨g, 0, none⟩ _), World.cell?_setCell_same _ _ _ h.c0, (World.cell?_setCell_other _ _ _ _ (by simp)).trans h.c1, (World.frozen?_setCell _ _ _ _).trans h.f0, (World.frozen?_setCell _ _ _ _).trans h.f1⟩
theorem XW.set1 {g : Nat} {w w' : World} {p q : Nat} (h : XW g w w' p q) (q' : Nat) : XW g w (w'.setCell ⟨g, 1, none⟩ (.int .i64 (q' : Int))) p q' :=
  ⟨h.grown.trans (grown_setCell _ ⟨g, 1, none⟩ _), (World.cell?_setCell_other _ _ _ _ (by simp)).trans h.c0, World.cell?_setCell_same _ _ _ h.c1, (World.frozen?_setCell _ _ _ _).trans h.f0, (World.frozen?_setCell _ _ _ _).trans h.f1⟩
theorem XW.alloc {g : Nat} {w w' : World} {p q : Nat} (h : XW g w w' p q) (o : Obj) : XW g w (w'.alloc o) p q :=
  have hg := World.block_lt_of_cell? w' _ h.c0
  ⟨h.grown.trans (World.grownBy_alloc _ _ _), (World.cell?_alloc_lt _ _ _ hg).trans h.c0, (World.cell?_alloc_lt w' o ⟨g, 1, none⟩ hg).trans h.c1, (World.frozen?_alloc_old _ _ _ (Nat.ne_of_lt hg)).trans h.f0, (World.frozen?_alloc_old w' o ⟨g, 1, none⟩ (Nat.ne_of_lt hg)).trans h.f1⟩
theorem grown_below {w w' : World} {g n : Nat} (h : w.grownBy w' (some g)) (hn : n ≤ g) (hnw : n ≤ w.heap.size) : Below n w w' :=
  ⟨h.os, h.tape, h.output, h.size, fun k hk => h.block k (by omega) (by intro e; simp at e; omega)⟩
/-- the contract of add, at a value -/
def AC (v : V) : Prop := ∀ (n : Nat) (w : World) (x : Value) (g p q d : Nat), v.At n w x → n ≤ g → g < w.heap.size → p ≤ 1000 → d ≤ p + 1 → q ≤ 1001 →
  w.cell? ⟨g, 0, none⟩ = some (.int .i64 (p : Int)) → w.cell? ⟨g, 1, none⟩ = some (.int .i64 (q : Int)) → w.frozen? ⟨g, 0, none⟩ = false → w.frozen? ⟨g, 1, none⟩ = false →
  Calls Tryz.prog 32 #[.pointer (some ⟨g, 0, none⟩), x, .int .i64 (d : Int)] w fun e w' => e = .returned (.tuple #[]) ∧ ∃ p' q', XW g w w' p' q' ∧ p ≤ p' ∧ p' ≤ 1001 ∧ q' ≤ 1001 ∧
    (p + v.count ≤ 1000 → p' = p + v.count ∧ q' + 1 = max (q + 1) (d + v.depth)) ∧ (1000 < p + v.count → 1000 < p')
set_option maxHeartbeats 4000000 in
theorem add_step (k : Int) (yes neg : Bool) (c : Nat) (s : Int) (t : ByteArray) (day : Int) (l : List V) (ns : List ByteArray) (ih : ∀ v ∈ l, AC v) : AC (.mk k yes neg c s t day l ns) := by
  intro n w x g p q d hx hng hgw hp hd hq e0 e1 f0 f1
  obtain ⟨lv, nv, rfl, ⟨hc, ht, hl, hnl⟩, hL, hN, hsz⟩ := at_mk hx
  obtain ⟨pl, cl, rfl⟩ := hL.shape
  obtain ⟨pn, cn, rfl⟩ := hN.shape
  have hcount : (V.mk k yes neg c s t day l ns).count = countL l + 1 := by unfold V.count; rfl
  have hdepth : (V.mk k yes neg c s t day l ns).depth = depthL l + 1 := by unfold V.depth; rfl
  rw [hcount, hdepth]
  have hmx : max (q : Int) (d : Int) = ((max q d : Nat) : Int) := by omega
  have hw1 : IntKind.i64.wrap ((p : Int) + 1) = ((p + 1 : Nat) : Int) := by rw [IntWalk.i64_in _ (by omega)]; omega
  have hw2 : IntKind.i64.wrap ((d : Int) + 1) = ((d + 1 : Nat) : Int) := by rw [IntWalk.i64_in _ (by omega)]; omega
  have hgne : (g = w.heap.size) = False := by simp; omega
  have hgne2 : (w.heap.size = g) = False := by simp; omega
  obtain ⟨w0, hw0⟩ : ∃ w0, w0 = ((w.setCell ⟨g, 0, none⟩ (.int .i64 ((p : Int) + 1))).setCell ⟨g, 1, none⟩ (.int .i64 ((max q d : Nat) : Int))).alloc
      (.cells #[.int .i64 k, .bool yes, .bool neg, .int .u64 (hi c : Int), .int .u64 (lo c : Int), .int .i64 s, .string t, .int .i64 day, .slice pl l.length cl, .slice pn ns.length cn] 34) := ⟨_, rfl⟩
  have hX0 : XW g w w0 (p + 1) (max q d) := by
    subst hw0
    have h0 : XW g w w p q := ⟨World.grownBy.refl _ _, e0, e1, f0, f1⟩
    have h1 := ((h0.set0 (p + 1)).set1 (max q d)).alloc (.cells #[.int .i64 k, .bool yes, .bool neg, .int .u64 (hi c : Int), .int .u64 (lo c : Int), .int .i64 s, .string t, .int .i64 day, .slice pl l.length cl, .slice pn ns.length cn] 34)
    rwa [show ((p + 1 : Nat) : Int) = (p : Int) + 1 by omega] at h1
  have HX0 := Lib.hid hX0
  have HL := Lib.hid (fun w' (hb : Below n w w') => hL.below hb)
  clear hX0
  rcases hL with ⟨rfl, hlv⟩ | ⟨g', o, cap, hlv, hgn, hg', hrow⟩
  · clear hlv
    simp only [List.length_nil] at hw0 ⊢
    go_enter Tryz.func32, Tryz.ntmps32
    go_wp2
    refine wp_loop_rounds 1 ?_
    rw [rounds_succ]
    go_wp2
    go_end0
    refine ⟨rfl, p + 1, max q d, by rw [← hw0]; exact HX0.out, by omega, by omega, by omega, fun h => ?_, fun h => ?_⟩
    · rw [show countL [] = 0 from rfl, show depthL [] = 0 from rfl] at *; omega
    · rw [show countL [] = 0 from rfl] at h; omega
  · simp only [Value.slice.injEq] at hlv
    obtain ⟨rfl, -, rfl⟩ := hlv
    have HR := Lib.hid (fun w' (hb : Below n w w') => hrow.below hb hgn)
    have hnw : n ≤ w.heap.size := by omega
    obtain ⟨len, hlen⟩ : ∃ len, l.length = len := ⟨_, rfl⟩
    have HLen := Lib.hid hlen
    rw [hlen] at hl hw0 ⊢
    clear hrow hlen
    go_enter Tryz.func32, Tryz.ntmps32
    go_wp2
    go_loopw [27] (fun i wr => ∃ m p' q' : Nat, m ≤ len ∧ i = .int .i64 m ∧ XW g w wr p' q' ∧ (p + 1 ≤ p' ∧ p' ≤ 1001 ∧ q' ≤ 1001 ∧ (p + 1 + countL (l.take m) ≤ 1000 → p' = p + 1 + countL (l.take m) ∧ q' = max (max q d) (d + depthL (l.take m))) ∧ (1000 < p + 1 + countL (l.take m) → 1000 < p'))) (fun i _ => len - (intOf i).toNat)
    case atStart => exact ⟨0, p + 1, max q d, by omega, rfl, by rw [← hw0]; exact HX0.out, by omega, by omega, by omega, fun _ => by simp [countL, depthL], fun h => by simp [countL] at h; omega⟩
    case round =>
      obtain ⟨m, p', q', hm, rfl, hxw, har⟩ := hrel
      have hb : Below n w wr := grown_below hxw.grown hng hnw
      have HX := Lib.hid hxw
      have HA := Lib.hid har
      have c0 := hxw.c0
      have hgr : g' < wr.heap.size := Nat.lt_of_lt_of_le hg' hxw.grown.size
      have hgr2 : g < wr.heap.size := Nat.lt_of_lt_of_le hgw hxw.grown.size
      have hgne' : (g = wr.heap.size) = False := by simp; omega
      clear hw0 HX0 HL
      by_cases hml : m < len
      · have hi : (m : Int) < len := by omega
        have hmn : m < l.length := by have := HLen.out; omega
        obtain ⟨k', yes', neg', a', b', s', t', day', pl', nl', cl', pn', nn', cn', h0, h1, h2, h3, h4, h5, h6, h7, h8, h9, hat⟩ := (HR.out wr hb).elem m hmn
        by_cases hp1 : 1000 < p'
        · have hp2 : (1000 : Int) < p' := by omega
          clear hb hxw har
          go_wp2
          (try simp only [Exit.inBlock, Exit.then])
          refine bodyPost_ret (results_none rfl _ _ _) rfl ?_
          have := countL_take l m
          obtain ⟨a1, a2, a3, a4, a5⟩ := HA.out
          exact ⟨rfl, p', q', HX.out.alloc _, by omega, by omega, by omega, fun h => by have := (a4 (by omega)).1; omega, fun _ => hp1⟩
        · have hp2 : ¬ (1000 : Int) < p' := by omega
          obtain ⟨ob, hob⟩ : ∃ ob, ob = Obj.cells #[.int .i64 k', .bool yes', .bool neg', .int .u64 a', .int .u64 b', .int .i64 s', .string t', .int .i64 day', .slice pl' nl' cl', .slice pn' nn' cn'] 34 := ⟨_, rfl⟩
          have hxa := hxw.alloc ob
          have hI := ih l[m] (List.getElem_mem hmn) n (wr.alloc ob) _ g p' q' (d + 1) (hat.below (Below.alloc (Below.refl _ _) (by omega) _)) hng (by simp; omega) (by omega) (by omega) (by omega) hxa.c0 hxa.c1 hxa.f0 hxa.f1
          rw [hob, show ((d + 1 : Nat) : Int) = (d : Int) + 1 by omega] at hI
          have HI := Lib.hid hI
          have HXA := Lib.hid hxa
          have HOB := Lib.hid hob
          have HT := Lib.hid (show l.take (m + 1) = l.take m ++ [l[m]] by rw [List.take_add_one, List.getElem?_eq_getElem hmn]; rfl)
          clear hb hxw har hI hxa hob hat
          go_wp2_with (first
            | (go_at_call 32; (with_reducible refine HI.out.mono ?_); rintro e w1 ⟨rfl, p2, q2, hx2, hp2, hp3, hq3, hc1, hc2⟩))
          have HX2 := Lib.hid hx2
          go_roundw
          case rel =>
            refine ⟨m + 1, p2, q2, by omega, by go_num, ?_, ?_⟩
            · have hx3 := HX2.out
              rw [← HOB.out] at hx3
              exact ⟨(HXA.out.grown.trans hx3.grown), hx3.c0, hx3.c1, hx3.f0, hx3.f1⟩
            · obtain ⟨a1, a2, a3, a4, a5⟩ := HA.out
              rw [HT.out, countL_snoc, depthL_snoc]
              have := count_pos l[m]
              refine ⟨by omega, by omega, by omega, fun h => ?_, fun h => ?_⟩
              · have b1 := a4 (by omega)
                have b2 := hc1 (by omega)
                omega
              · by_cases h9 : p + 1 + countL (l.take m) ≤ 1000
                · have b1 := a4 h9
                  exact hc2 (by omega)
                · exact absurd (a5 (by omega)) hp1
          case measure => simp [intOf]; omega
      · obtain rfl : m = len := by omega
        have hi : ¬ (m : Int) < m := by omega
        have HT := Lib.hid (show l.take m = l by rw [← HLen.out, List.take_length])
        go_wp2
        go_end0
        obtain ⟨a1, a2, a3, a4, a5⟩ := HA.out
        rw [HT.out] at a4 a5
        refine ⟨rfl, p', q', HX.out, by omega, by omega, by omega, fun h => ?_, fun h => a5 (by omega)⟩
        have b1 := a4 (by omega)
        omega
mutual
theorem add_any : ∀ v : V, AC v
  | .mk k yes neg c s t day l ns => add_step k yes neg c s t day l ns (add_all l)
theorem add_all : ∀ (l : List V) (v : V), v ∈ l → AC v
  | [], _, h => by cases h
  | u :: r, v, h => (List.mem_cons.1 h).elim (fun e => e ▸ add_any u) (fun h => add_all r v h)
end
theorem code_long {v : V} (h : 1000 < v.count) : v.code = 6 := by unfold V.code; rw [if_pos h]
theorem code_deep {v : V} (h : ¬ 1000 < v.count) (h2 : 16 < v.depth) : v.code = 7 := by unfold V.code; rw [if_neg h, if_pos h2]
theorem code_form {v : V} (h : ¬ 1000 < v.count) (h2 : ¬ 16 < v.depth) (h3 : v.form = true) : v.code = 0 := by unfold V.code; rw [if_neg h, if_neg h2, if_pos h3]
theorem code_bad {v : V} (h : ¬ 1000 < v.count) (h2 : ¬ 16 < v.depth) (h3 : v.form = false) : v.code = 2 := by unfold V.code; rw [if_neg h, if_neg h2, if_neg (by rw [h3]; simp)]
set_option maxHeartbeats 4000000 in
theorem vcheck_any (v : V) (n : Nat) (w : World) (x : Value) (hx : v.At n w x) (hnw : n ≤ w.heap.size) (hT : Tens w) (hU : Tabs w) :
    Calls Tryz.prog 18 #[x] w fun e w' => e = .returned (.int .i64 v.code) ∧ Below w.heap.size w w' := by
  have HF := Lib.hid (fun w' (hb : Below w.heap.size w w') => formed_any v n w' x (hx.below (hb.mono hnw)) (Nat.le_trans hnw hb.size) (hT.below hb) (hU.below hb))
  have HAt := Lib.hid hx
  obtain ⟨k, yes, neg, c, s, t, day, l, ns, hv⟩ : ∃ k yes neg c s t day l ns, v = V.mk k yes neg c s t day l ns := by cases v; exact ⟨_, _, _, _, _, _, _, _, _, rfl⟩
  obtain ⟨pl, nl, cl, pn, nn, cn, rfl⟩ : ∃ pl nl cl pn nn cn, x = VC k yes neg c s t day (.slice pl nl cl) (.slice pn nn cn) := by
    rw [hv] at hx
    obtain ⟨lv, nv, rfl, _, hL, hN, _⟩ := at_mk hx
    obtain ⟨pl, cl, rfl⟩ := hL.shape
    obtain ⟨pn, cn, rfl⟩ := hN.shape
    exact ⟨_, _, _, _, _, _, rfl⟩
  obtain ⟨bx, hbx⟩ : ∃ bx, bx = Obj.cells #[.int .i64 k, .bool yes, .bool neg, .int .u64 (hi c : Int), .int .u64 (lo c : Int), .int .i64 s, .string t, .int .i64 day, .slice pl nl cl, .slice pn nn cn] 34 := ⟨_, rfl⟩
  obtain ⟨be, hbe⟩ : ∃ be, be = Obj.cells #[.int .i64 0, .int .i64 0] 68 := ⟨_, rfl⟩
  have hA := add_any v n ((w.alloc bx).alloc be) _ (w.heap.size + 1) 0 0 1 (hx.below (Below.alloc (Below.alloc (Below.refl _ _) hnw _) (by simp; omega) _)) (by omega) (by simp) (by omega) (by omega) (by omega) (by subst hbx hbe; simp [go_sem]) (by subst hbx hbe; simp [go_sem]) (by subst hbx hbe; simp [go_sem]) (by subst hbx hbe; simp [go_sem])
  have HA := Lib.hid (show Calls Tryz.prog 32 #[.pointer (some ⟨w.heap.size + 1, 0, none⟩), VC k yes neg c s t day (.slice pl nl cl) (.slice pn nn cn), .int .i64 1] ((w.alloc (.cells #[.int .i64 k, .bool yes, .bool neg, .int .u64 (hi c : Int), .int .u64 (lo c : Int), .int .i64 s, .string t, .int .i64 day, .slice pl nl cl, .slice pn nn cn] 34)).alloc (.cells #[.int .i64 0, .int .i64 0] 68)) fun e w' =>
    e = .returned (.tuple #[]) ∧ ∃ p q : Nat, (w'.cell? ⟨w.heap.size + 1, 0, none⟩ = some (.int .i64 (p : Int)) ∧ w'.cell? ⟨w.heap.size + 1, 1, none⟩ = some (.int .i64 (q : Int)) ∧ w.heap.size + 2 ≤ w'.heap.size ∧ Below w.heap.size w w' ∧
      ∀ j, w'.cell? ⟨w.heap.size, j, none⟩ = (#[.int .i64 k, .bool yes, .bool neg, .int .u64 (hi c : Int), .int .u64 (lo c : Int), .int .i64 s, .string t, .int .i64 day, .slice pl nl cl, .slice pn nn cn] : Array Value)[j]?) ∧
      ((v.count ≤ 1000 → p = v.count ∧ q = v.depth) ∧ (1000 < v.count → 1000 < p)) from by
    subst hbx hbe
    refine hA.mono fun e w' ⟨he, p, q, hx, h1, h2, h3, h4, h5⟩ => ⟨he, p, q, ⟨hx.c0, hx.c1, ?_, ?_, ?_⟩, fun h => ?_, fun h => h5 (by omega)⟩
    · have := hx.grown.size; simp at this; omega
    · exact (Below.alloc (Below.alloc (Below.refl w.heap.size w) (Nat.le_refl _) _) (by simp) _).grown hx.grown (by simp; omega) (fun k hk => by cases hk; omega)
    · intro j
      rw [hx.grown.cell_far ⟨w.heap.size, j, none⟩ (by simp; omega) (by simp)]
      rw [World.cell?_alloc_lt _ _ _ (by simp)]
      simp
    · have := h4 (by omega)
      omega)
  clear hA hx hbx hbe bx be hnw hT hU
  by_cases h1 : 1000 < v.count
  · rw [code_long h1]
    go_enter Tryz.func18, Tryz.ntmps18
    go_wp2_with (first
      | (go_at_call 32; (with_reducible refine HA.out.mono ?_); rintro e w1 ⟨rfl, p, q, ⟨c0, c1, hz, hb, hbx⟩, har1, har2⟩; have hp : (1000 : Int) < p := by (have := har2 h1; omega)))
    go_ret
    exact ⟨rfl, hb⟩
  by_cases h2 : 16 < v.depth
  · rw [code_deep h1 h2]
    go_enter Tryz.func18, Tryz.ntmps18
    go_wp2_with (first
      | (go_at_call 32; (with_reducible refine HA.out.mono ?_); rintro e w1 ⟨rfl, p, q, ⟨c0, c1, hz, hb, hbx⟩, har1, har2⟩; have hp : ¬ (1000 : Int) < p := (by (have := har1 (by omega); omega)); have hq : (16 : Int) < q := (by (have := har1 (by omega); omega))))
    go_ret
    exact ⟨rfl, hb⟩
  obtain ⟨u, hu⟩ : ∃ u, v.form = u := ⟨_, rfl⟩
  rw [hu] at HF
  have hc : v.code = if u = true then 0 else 2 := by
    cases u
    · exact code_bad h1 h2 hu
    · exact code_form h1 h2 hu
  rw [hc]
  clear hc hu
  cases u
  all_goals
    go_enter Tryz.func18, Tryz.ntmps18
    go_wp2_with (first
      | (go_at_call 32; (with_reducible refine HA.out.mono ?_); rintro e w1 ⟨rfl, p, q, ⟨c0, c1, hz, hb, hbx⟩, har1, har2⟩; have hp : ¬ (1000 : Int) < p := (by (have := har1 (by omega); omega)); have hq : ¬ (16 : Int) < q := (by (have := har1 (by omega); omega)); clear har1 har2)
      | (go_at_call 33; (with_reducible refine (HF.out _ hb).mono ?_); rintro e w2 ⟨rfl, hb2⟩))
    go_ret
    exact ⟨rfl, hb.trans (hb2.mono hb.size)⟩
end Go.Proofs.YtjkallelniggpaaGreatDoor
