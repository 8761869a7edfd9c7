import PyProof.Rows.All
import Wide.All
import OpenK.AllK
import Wide.FinOn
import HandS.ForMost
import HandS.Wide
import HandS.Star
import HandS.Property
import HandS.ClsMeth
import HandS.Codes
import HandS.More
import HandS.IsInst
import PyProof.InstEq
import HandS.ForExc
import HandS.ExcInit
import KE.KSuper
import KE.KExcSuper
import HandS.ExcField
import HandS.ExcValue
import HandS.TupLe
import HandS.MakeKwOnly
import HandS.WordsExc
import HandS.Lambda
import PyProof.ReprRoads
import HandS.FStrTup
import HandS.RaiseMore
import KE.KStateDown
import HandS.Head0
import HandS.Head1
import HandS.Head2
import HandS.HeadEnd
import HandS.HeadHook1
import HandS.HeadHook2
import HandS.HeadHook3
import HandS.HeadHook4
import HandS.HeadWalk
import HandS.NestedK
import PySem.Challenge.RW_climbtickets_k01_tickets_by_hand
/-! part L1 -/
set_option Elab.async false
set_option linter.all false
set_option maxRecDepth 100000
set_option maxHeartbeats 4000000
namespace CT
open PySem PySem.Spec PyProof.Rows L2
def topS (i : Nat) : Stmt := PySem.Challenge.pw_climbtickets_k01_tickets_by_hand.main.body.getD i (.Pass ⟨0, 0, 0, 0⟩)
local macro_rules | `(tactic| walk_at "rd") => `(tactic| (try simp only [tSeq, tAsg, tOp, rI0, rI, tC, tVar, gName, tRet, tRetN, tIfS, tIf, tTest, tB, tAnd, tOr, tNot, tAndV, tOrV, tNotV, tCons, tNil, tCall, tCB, tDrop, tNext, rEq, rNe, scal, L2.start, List.length_cons, List.length_nil, List.map_cons, List.map_nil, List.cons_append, List.nil_append, List.append_nil, List.append_eq, List.replicate, List.set_cons_zero, List.set_cons_succ, List.getElem?_cons_zero, List.getElem?_cons_succ, Option.some.injEq, V.int.injEq, V.str.injEq, V.ref.injEq, V.bl.injEq, exists_eq_left', exists_eq_left, exists_and_left, exists_and_right, exists_eq', exists_eq, Nat.reduceSub, Nat.reduceAdd, true_and, and_true, CMul, CDiv, CDivN, cxOf, Cx.nox, Cx.wish, iRng1, iRng2, iEnum, iList, iTup, gTup, gCons, gNil, gSub, rSetL, rIxL, rIxT, wipe, tYes, ↓reduceIte, if_true]))
/-- what the top leaves of the built-in names -/
structure Bl (mg : Str → Option Value) : Prop where
  len : mg "len" = none
  range : mg "range" = none
  enumerate : mg "enumerate" = none
  list : mg "list" = none
theorem for_enum {K : PySem.W.Frag} {a : Addr} {xs : List V} {g : TG} {tb : TS} {D : Ends} {σ : L2.St} {H : Hp} (Pv : Nat → L2.St → Hp → Prop) (h0 : Pv 0 σ H) (hl : ∀ i σ H, i ≤ xs.length → Pv i σ H → SqL K H a xs)
    (hs : ∀ i x σ H T, xs[i]? = some x → Pv i σ H → H T = none → g (.ref T) σ (upd H T (.tup [.int (i : Nat), x])) fun σ2 H2 => tb { D with nx := Pv (i + 1), ct := Pv (i + 1), bk := D.nx } σ2 H2) (hd : ∀ σ H, Pv xs.length σ H → D.nx σ H) :
    ∃ W : Nat → Nat → L2.St → Hp → Prop, (∃ m, W 0 m σ H) ∧ ∀ i m σ H, W i m σ H →
      ((Ite K a).stop i H ∧ D.nx σ H) ∨ ((Ite K a).go i H ∧ ∃ N : L2.St → Hp → Prop, (∀ σ' H', N σ' H' → ∃ m', m' < m ∧ W (i + 1) m' σ' H') ∧ ∀ x H', (Ite K a).yld i H x H' → g x σ H' fun σ2 H2 => tb { D with nx := N, ct := N, bk := D.nx } σ2 H2) := by
  refine ⟨fun i m σ H => m = xs.length - i ∧ i ≤ xs.length ∧ Pv i σ H, ⟨xs.length, by simp, Nat.zero_le _, h0⟩, ?_⟩
  rintro i m σ H ⟨rfl, hi, p⟩
  have q := hl i σ H hi p
  by_cases hlt : i < xs.length
  · refine .inr ⟨⟨xs, xs[i], q, by simp [hlt]⟩, Pv (i + 1), fun σ' H' p' => ⟨xs.length - (i + 1), by omega, rfl, hlt, p'⟩, fun x H' y => ?_⟩
    obtain ⟨T, x', ev, nT, e, y⟩ := y
    subst ev e
    exact hs i x' σ _ T (y xs q) p nT
  · have e : i = xs.length := by omega
    subst e
    exact .inl ⟨⟨xs, q, Nat.le_refl _⟩, hd σ H p⟩
theorem same_upd {H : Hp} {p : Addr} {o : HO} (h : H p = none) : Same H (upd H p o) := fun b x e => by
  rw [upd_ne (ne_of_none e h)]
  exact e
/-- what is new beside H stays new: a store at an address that H does not hold -/
theorem _root_.L2.Same.put {H H' : Hp} {p : Addr} {o : HO} (sm : Same H H') (h : H p = none) : Same H (upd H' p o) := fun b x e => by
  rw [upd_ne (ne_of_none e h)]
  exact sm _ _ e
/-- numbers from 0 to hi - 1 -/
def Rng (hi : Int) (cs : List Int) : Prop := ∀ c ∈ cs, 0 ≤ c ∧ c < hi
theorem Rng.nil {hi : Int} : Rng hi [] := fun c h => by cases h
theorem Rng.snoc {hi : Int} {cs : List Int} {x : Int} (h : Rng hi cs) (h0 : 0 ≤ x) (h1 : x < hi) : Rng hi (cs ++ [x]) := fun c hc => by
  rcases List.mem_append.mp hc with z | z
  · exact h c z
  · rw [List.mem_singleton.mp z]
    exact ⟨h0, h1⟩
theorem Rng.set {hi : Int} {cs : List Int} {x : Int} (h : Rng hi cs) (j : Nat) (h0 : 0 ≤ x) (h1 : x < hi) : Rng hi (cs.set j x) := fun c hc => by
  rcases List.mem_or_eq_of_mem_set hc with z | z
  · exact h c z
  · rw [z]
    exact ⟨h0, h1⟩
theorem Rng.get {hi : Int} {cs : List Int} {j : Nat} {x : Int} (h : Rng hi cs) (e : cs[j]? = some x) : 0 ≤ x ∧ x < hi := h x (List.mem_of_getElem? e)
theorem int_at {cs : List Int} {j : Nat} (h : j < cs.length) : (cs.map V.int)[j]? = some (.int cs[j]) := by
  rw [List.getElem?_map, List.getElem?_eq_getElem h]
  rfl
theorem atI_int {cs : List Int} {i : Int} {j : Nat} (e : i = (j : Int)) (h : j < cs.length) : atI (cs.map V.int) i = some (.int cs[j]) := by
  rw [e]
  exact atI_nat (int_at h)
theorem ixN_int {cs : List Int} {i : Int} {j : Nat} (e : i = (j : Int)) (h : j < cs.length) : ixN (cs.map V.int).length i = some j := by
  unfold ixN
  rw [List.length_map, if_pos (show 0 ≤ i by omega), if_pos (show i < (cs.length : Int) by omega), e]
  rfl
section
variable {P : Program} {w : World} {K : PySem.W.Frag} {mg : Str → Option Value} {base : Heap}
/-! ### _law_mixed -/
abbrev s_law_mixed : Stmt := topS 11
theorem sc_law_mixed : FnScope ["cell", "n", "turned"] ["cell", "n"] (defScope s_law_mixed) := ⟨rfl, rfl, rfl, by decide +kernel, rfl, by decide +kernel, by decide +kernel⟩
def spMixed : Sp := fun vs H Q _ => ∃ c n : Int, vs = [.int c, .int n] ∧ (0 ≤ c ∧ c < 2 ^ 50) ∧ (0 ≤ n ∧ n < 2 ^ 20) ∧
  ∀ r : Int, 0 ≤ r → r < 2 ^ 40 → Q (.int r) H
theorem ok_mixed {f : Addr} {fd : FuncData} {k : Nat} (F : Fun K "_law_mixed" "_law_mixed" s_law_mixed f fd) : FnOk P w K mg base CX0 (k + 1) f fd ["cell", "n"] spMixed := by
  refine F.ok sc_law_mixed (fun vs H Q E h => ?_) (fun cdv A outer s H vs Q E hr h => ?_)
  · obtain ⟨c, n, rfl, _⟩ := h
    rfl
  · obtain ⟨c, n, rfl, hc, hn, q⟩ := h
    refine ⟨_, (pss_cons (ps_set (i := 2) sc_law_mixed.nd rfl (.inl rfl) (pe_op op_add (pe_op op_add (pe_op op_mod (pe_op op_mul (pe_op op_mul (pv 0) (pe_op op_add pe_int (pe_op op_mul pe_int (pv 1)))) pe_int) pe_int) (pe_op op_mul (pe_op op_mul pe_int (pv 1)) (pv 1))) (pe_op op_mul pe_int (pv 1))))
      (pss_one (ps_ret (pe_op op_fdiv (pe_op op_mod (pe_op op_mul (pv 2) pe_int) pe_int) pe_int)))), ?_⟩
    walk_at "rd"
    have e0 : ∀ x : Int, 0 ≤ x % 2147483629 := fun x => Int.emod_nonneg _ (by decide)
    have e1 : ∀ x : Int, x % 2147483629 < 2147483629 := fun x => Int.emod_lt_of_pos _ (by decide)
    refine ⟨.inl (by decide), .inl (by omega), .inr (by decide), by decide, .inl (by decide), .inr (by omega), .inl (by decide), .inr (by decide), by decide, by decide, q _ ?_ ?_⟩
    · have := e0 ((c * (1 + 2 * n) * 48271 % 2147483647 + 7919 * n * n + 104729 * n) * 69621)
      omega
    · have := e1 ((c * (1 + 2 * n) * 48271 % 2147483647 + 7919 * n * n + 104729 * n) * 69621)
      omega
/-! ### _law_folded -/
abbrev s_law_folded : Stmt := topS 12
theorem sc_law_folded : FnScope ["script", "n", "found", "cell"] ["script"] (defScope s_law_folded) := ⟨rfl, rfl, rfl, by decide +kernel, rfl, by decide +kernel, by decide +kernel⟩
def spFolded (K : PySem.W.Frag) : Sp := fun vs H Q _ => ∃ (a : Addr) (ns : List Int), vs = [.ref a] ∧ SqL K H a (ns.map V.int) ∧ ns.length ≤ 1000 ∧
  ∀ (H' : Hp) (p : Addr) (cs : List Int), Same H H' → H p = none → H' p = some (.lst (cs.map V.int)) → cs.length = 64 → Rng 2147483647 cs → Q (.ref p) H'
theorem ok_folded {f : Addr} {fd : FuncData} {k : Nat} (F : Fun K "_law_folded" "_law_folded" s_law_folded f fd) (T : Bl mg) : FnOk P w K mg base CX0 (k + 1) f fd ["script"] (spFolded K) := by
  refine F.ok sc_law_folded (fun vs H Q E h => ?_) (fun cdv A outer s H vs Q E hr h => ?_)
  · obtain ⟨a, ns, rfl, _⟩ := h
    rfl
  · obtain ⟨a, ns, rfl, hS, hl, q⟩ := h
    refine ⟨_, (pss_cons (ps_setLc (i := 2) (own := [("n", 1)]) rfl sc_law_folded.nd rfl rfl (sw_true rfl rfl rfl (by decide +kernel)) (pi_range1 (by rfl) T.range (pa_cons pe_int pa_nil)) (blkOk_by (own := [("n", 1)]) (N := ["script", "n", "found", "cell"]) (sc := defScope s_law_folded) (by decide +kernel)) (fun _ _ _ _ _ => (pg_name (i := 1) sc_law_folded.nd rfl (Or.inl rfl))) (fun _ _ _ _ _ => pts_nil) (fun _ _ _ _ _ => (pe_op op_add pe_int (pv 1))))
      (pss_cons (ps_for PassesOwn.never rfl (pi_enum (by rfl) T.enumerate (pa_cons (pv 0) pa_nil)) (pg_tup (n := 2) rfl (pgs_cons (pg_name (i := 1) sc_law_folded.nd rfl (.inl rfl)) (pgs_cons (pg_name (i := 3) sc_law_folded.nd rfl (.inl rfl)) pgs_nil))) (pss_one (ps_asg (pe_op op_mod (pe_op op_add (pe_op op_mul (pe_ix ix_list (pv 2) (pe_op op_mod (pv 1) pe_int) (fun _ _ => rfl)) pe_int) (pv 3)) pe_int) (pg_sub (pv 2) (pe_op op_mod (pv 1) pe_int) set_list))))
      (pss_cons (ps_for PassesOwn.never rfl (pi_range2 (by rfl) T.range (pa_cons pe_int (pa_cons pe_int pa_nil))) (pg_name (i := 1) sc_law_folded.nd rfl (.inl rfl)) (pss_one (ps_asg (pe_op op_mod (pe_op op_add (pe_ix ix_list (pv 2) (pv 1) (fun _ _ => rfl)) (pe_op op_mul (pe_ix ix_list (pv 2) (pe_op op_sub (pv 1) pe_int) (fun _ _ => rfl)) pe_int)) pe_int) (pg_sub (pv 2) (pv 1) set_list))))
      (pss_one (ps_ret (pv 2)))))), ?_⟩
    walk_at "rd"
    refine ⟨64, rfl, by decide, by decide, fun D nD => lc_range (lo := 0) (n := 64) (fun i H' => Same H H' ∧ ∃ cs : List Int, H' D = some (.lst (cs.map V.int)) ∧ cs.length = i ∧ Rng 2147483647 cs)
      ⟨same_upd nD, [], upd_same, rfl, Rng.nil⟩ (fun i H' hi ⟨sm, cs, e, hlen, hR⟩ => ?_) (fun H1 ⟨sm, cs, e, hlen, hR⟩ => ?_)⟩
    · walk_at "rd"
      refine ⟨_, e, ?_, sm.put nD, cs ++ [17 + (0 + (i : Int))], ?_, ?_, hR.snoc (by omega) (by omega)⟩
      · rw [List.length_map, hlen]
        exact small1000 (by omega)
      · rw [upd_same, List.map_append]
        rfl
      · rw [List.length_append, hlen]
        rfl
    · walk_at "rd"
      have hS1 : SqL K H1 a (ns.map V.int) := sm.seq hS
      refine ⟨_, rfl, a, _, rfl, hS1, for_enum (xs := ns.map V.int) (fun i σ H' => ∃ v3 v4, σ = [some (.ref a), v3, some (.ref D), v4] ∧ Same H H' ∧ ∃ cs : List Int, H' D = some (.lst (cs.map V.int)) ∧ cs.length = 64 ∧ Rng 2147483647 cs)
        ⟨_, _, rfl, sm, cs, e, hlen, hR⟩ (fun i σ H' _ ⟨_, _, _, sm, _⟩ => sm.seq hS) ?_ ?_⟩
      · rintro i x σ H2 T' hx ⟨v3, v4, rfl, sm2, cs2, e2, hl2, hR2⟩ nT
        have hx2 : ∃ z : Int, x = V.int z := by
          rw [List.getElem?_map] at hx
          cases e9 : ns[i]? with
          | none => rw [e9] at hx; cases hx
          | some z => rw [e9] at hx; exact ⟨z, (Option.some.inj hx).symm⟩
        obtain ⟨z, rfl⟩ := hx2
        walk_at "rd"
        have nTD : D ≠ T' := ne_of_none e2 nT
        have eD : upd H2 T' (HO.tup [V.int (i : Int), .int z]) D = some (HO.lst (cs2.map V.int)) := by rw [upd_ne nTD]; exact e2
        have hj : i % 64 < cs2.length := by rw [hl2]; exact Nat.mod_lt _ (by decide)
        have hij : ((i : Int) % 64) = ((i % 64 : Nat) : Int) := by omega
        have hb0 : ∀ y : Int, 0 ≤ y % 2147483647 := fun y => Int.emod_nonneg _ (by decide)
        have hb1 : ∀ y : Int, y % 2147483647 < 2147483647 := fun y => Int.emod_lt_of_pos _ (by decide)
        refine ⟨_, SqT.of upd_same, rfl, _, _, rfl, _, _, rfl, rfl, _, rfl, by decide, _, SqL.of eD, _, atI_int hij hj, _, rfl, .inr (by decide), _, rfl, by decide, _, rfl, by decide, _, eD, _, ixN_int hij hj, ⟨_, _, rfl⟩, (sm2.put (sm2.free nT)).put nD, cs2.set (i % 64) ((cs2[i % 64] * 48271 + z) % 2147483647), ?_, ?_, hR2.set _ (hb0 _) (hb1 _)⟩
        · rw [upd_same, List.map_set]
        · rw [List.length_set]
          exact hl2
      · rintro σ H2 ⟨v3, v4, rfl, sm2, cs2, e2, hl2, hR2⟩
        walk_at "rd"
        refine ⟨1, 64, rfl, by decide, for_range (lo := 1) (n := 63) (fun i σ H' => ∃ v3 v4, σ = [some (.ref a), v3, some (.ref D), v4] ∧ Same H H' ∧ ∃ cs : List Int, H' D = some (.lst (cs.map V.int)) ∧ cs.length = 64 ∧ Rng 2147483647 cs)
          ⟨_, _, rfl, sm2, cs2, e2, hl2, hR2⟩ ?_ ?_⟩
        · rintro i σ H3 hi ⟨w3, w4, rfl, sm3, cs3, e3, hl3, hR3⟩
          walk_at "rd"
          have h1 : i + 1 < cs3.length := by omega
          have h0 : i < cs3.length := by omega
          have hb0 : ∀ y : Int, 0 ≤ y % 2147483647 := fun y => Int.emod_nonneg _ (by decide)
          have hb1 : ∀ y : Int, y % 2147483647 < 2147483647 := fun y => Int.emod_lt_of_pos _ (by decide)
          refine ⟨_, SqL.of e3, _, atI_int (j := i + 1) (by omega) h1, _, SqL.of e3, _, atI_int (j := i) (by omega) h0, _, rfl, .inr (by decide), _, rfl, by decide, _, e3, _, ixN_int (j := i + 1) (by omega) h1, ⟨_, _, rfl⟩, sm3.put nD, cs3.set (i + 1) ((cs3[i + 1] + cs3[i] * 16807) % 2147483647), ?_, ?_, hR3.set _ (hb0 _) (hb1 _)⟩
          · rw [upd_same, List.map_set]
          · rw [List.length_set]
            exact hl3
        · rintro σ H3 ⟨w3, w4, rfl, sm3, cs3, e3, hl3, hR3⟩
          walk_at "rd"
          exact q H3 D cs3 sm3 nD e3 hl3 hR3
end
end CT
/-! part L2 -/
set_option Elab.async false
set_option linter.all false
set_option maxRecDepth 100000
set_option maxHeartbeats 4000000
namespace CT
open PySem PySem.Spec PyProof.Rows L2
local macro_rules | `(tactic| walk_at "rd") => `(tactic| (try simp only [tSeq, tAsg, tOp, rI0, rI, tC, tVar, gName, tRet, tRetN, tIfS, tIf, tTest, tB, tAnd, tOr, tNot, tAndV, tOrV, tNotV, tCons, tNil, tCall, tCB, tDrop, tNext, rEq, rNe, scal, L2.start, List.length_cons, List.length_nil, List.map_cons, List.map_nil, List.cons_append, List.nil_append, List.append_nil, List.append_eq, List.replicate, List.set_cons_zero, List.set_cons_succ, List.getElem?_cons_zero, List.getElem?_cons_succ, Option.some.injEq, V.int.injEq, V.str.injEq, V.ref.injEq, V.bl.injEq, exists_eq_left', exists_eq_left, exists_and_left, exists_and_right, exists_eq', exists_eq, Nat.reduceSub, Nat.reduceAdd, true_and, and_true, CMul, CDiv, CDivN, cxOf, Cx.nox, Cx.wish, iRng1, iRng2, iEnum, iList, iTup, gTup, gCons, gNil, gSub, rSetL, rIxL, rIxT, wipe, tYes, ↓reduceIte, if_true, tDGet, rNeD, rEqD, tLst, tTup, sDPut]))
theorem kn1 : ¬ (("cells" : Str) = "great") := by decide +kernel
theorem kn2 : ¬ (("cells" : Str) = "spot") := by decide +kernel
theorem kn3 : ¬ (("great" : Str) = "spot") := by decide +kernel
/-- the pairs of the dict that the drawing keeps -/
def mK (dc dg : Addr) (n : Int) : List (Key × V) := [(.inr "cells", .ref dc), (.inr "great", .ref dg), (.inr "spot", .int n)]
theorem mK_cells (dc dg : Addr) (n : Int) : valV (mK dc dg n) (.inr "cells" : Key) = some (.ref dc) := by
  unfold valV mK
  simp
theorem mK_great (dc dg : Addr) (n : Int) : valV (mK dc dg n) (.inr "great" : Key) = some (.ref dg) := by
  unfold valV mK
  simp [kn1]
theorem mK_spot (dc dg : Addr) (n : Int) : valV (mK dc dg n) (.inr "spot" : Key) = some (.int n) := by
  unfold valV mK
  simp [kn2, kn3]
theorem mK_put (dc dg : Addr) (n z : Int) : putK (mK dc dg n) (.inr "spot" : Key) (.int z) = mK dc dg z := by
  unfold putK mK
  simp [kn2, kn3]
theorem mK_putg (dc dg de : Addr) (n : Int) : putK (mK dc dg n) (.inr "great" : Key) (.ref de) = mK dc de n := by
  unfold putK mK
  simp [kn1, kn3, Ne.symm kn3]
/-- a def of the module that lets no error out, by its promise -/
structure Cl (P : Program) (w : World) (K : PySem.W.Frag) (mg : Str → Option Value) (base : Heap) (k : Nat) (x : Str) (sp : Sp) : Prop where
  ex : ∃ (f : Addr) (fd : FuncData) (ps : List Str), FnOk P w K mg base CX0 k f fd ps sp ∧ mg x = some (.ref f) ∧ PySem.W.keepIn K (.ref f) = true ∧ Binds K fd ps []
section
variable {X : Cx} {k j : Nat} {x : Str} {sp : Sp} {p pos : Pos} {e : Expr} {es : List Expr} {t : TA}
theorem pe_cl (c : Cl X.prog X.w X.K X.mg X.base k x sp) (hr : Room j X.A) (hk : k ≤ j) (hg : Gl X x) (ha : PA X (e :: es) t)
    (hdb : (x == ("__debug__" : Str)) = false := by decide) (he : starEach (e :: es) X.env = (false, eval e X.env) :: starEach es X.env := by rfl) (hpl : (backTo pos (starEach es X.env)).any (·.1) = false := by rfl) :
    PE X (.Call (.Name x p) (e :: es) [] pos) (tCall sp [] E0 t) := by
  obtain ⟨f, fd, ps, F, hm, kp, b⟩ := c.ex
  exact pe_call F (hr.mono hk) hg hm kp b .nil pass0 ha hdb he hpl
theorem pe_cl0 (c : Cl X.prog X.w X.K X.mg X.base k x sp) (hr : Room j X.A) (hk : k ≤ j) (hg : Gl X x) (hdb : (x == ("__debug__" : Str)) = false := by decide) :
    PE X (.Call (.Name x p) [] [] pos) (tCall sp [] E0 tNil) := by
  obtain ⟨f, fd, ps, F, hm, kp, b⟩ := c.ex
  exact pe_call0 F (hr.mono hk) hg hm kp b .nil pass0 hdb
end
/-- what a draw may change: the dict at dm and the list at dg -/
structure Kp (dm dg : Addr) (H H' : Hp) : Prop where
  at_ : ∀ b o, H b = some o → b ≠ dm → b ≠ dg → H' b = some o
  m : H dm ≠ none → H' dm ≠ none
  g : H dg ≠ none → H' dg ≠ none
theorem Kp.refl (dm dg : Addr) (H : Hp) : Kp dm dg H H := ⟨fun _ _ h _ _ => h, fun h => h, fun h => h⟩
theorem Kp.trans {dm dg : Addr} {H H1 H2 : Hp} (a : Kp dm dg H H1) (b : Kp dm dg H1 H2) : Kp dm dg H H2 := ⟨fun c o h n1 n2 => b.at_ c o (a.at_ c o h n1 n2) n1 n2, fun h => b.m (a.m h), fun h => b.g (a.g h)⟩
theorem Kp.free {dm dg : Addr} {H H' : Hp} (k : Kp dm dg H H') {l : Addr} (h : H' l = none) : H l = none := by
  cases e : H l with
  | none => rfl
  | some o =>
    by_cases h1 : l = dm
    · subst h1
      exact absurd h (k.m (by rw [e]; exact fun z => nomatch z))
    · by_cases h2 : l = dg
      · subst h2
        exact absurd h (k.g (by rw [e]; exact fun z => nomatch z))
      · rw [k.at_ l o e h1 h2] at h
        cases h
theorem Kp.same {dm dg : Addr} {H H' : Hp} (s : Same H H') : Kp dm dg H H' := ⟨fun b o h _ _ => s b o h, fun h z => h (s.free z), fun h z => h (s.free z)⟩
theorem upd_some {H : Hp} {p b : Addr} {o : HO} (h : H b ≠ none) : upd H p o b ≠ none := fun z => by
  by_cases q : b = p
  · rw [q, upd_same] at z
    cases z
  · rw [upd_ne q] at z
    exact h z
theorem Kp.put {dm dg p : Addr} {o : HO} {H H' : Hp} (k : Kp dm dg H H') (h : H p = none) : Kp dm dg H (upd H' p o) := by
  refine ⟨fun b x e n1 n2 => ?_, fun e => upd_some (k.m e), fun e => upd_some (k.g e)⟩
  rw [upd_ne (ne_of_none e h)]
  exact k.at_ b x e n1 n2
theorem Kp.putm {dm dg : Addr} {o : HO} {H H' : Hp} (k : Kp dm dg H H') : Kp dm dg H (upd H' dm o) := by
  refine ⟨fun b x e n1 n2 => ?_, fun e => upd_some (k.m e), fun e => upd_some (k.g e)⟩
  rw [upd_ne n1]
  exact k.at_ b x e n1 n2
theorem Kp.putg {dm dg : Addr} {o : HO} {H H' : Hp} (k : Kp dm dg H H') : Kp dm dg H (upd H' dg o) := by
  refine ⟨fun b x e n1 n2 => ?_, fun e => upd_some (k.m e), fun e => upd_some (k.g e)⟩
  rw [upd_ne n2]
  exact k.at_ b x e n1 n2
theorem Kp.seqL {K : PySem.W.Frag} {dm dg a : Addr} {xs : List V} {H H' : Hp} (k : Kp dm dg H H') (h : SqL K H a xs) (n1 : a ≠ dm) (n2 : a ≠ dg) : SqL K H' a xs :=
  h.elim (fun h => .inl (h.elim (fun h => .inl (k.at_ _ _ h n1 n2)) fun ⟨o, h⟩ => .inr ⟨o, k.at_ _ _ h n1 n2⟩)) fun h => .inr h
/-- the drawing's state at dm (its great cells at dg), after at most k draws -/
structure MAt (H : Hp) (dm dc dg : Addr) (k : Nat) : Prop where
  ex : ∃ (n : Nat) (cs gs : List Int), n ≤ k ∧ H dm = some (.dK (mK dc dg (n : Int))) ∧ H dc = some (.lst (cs.map V.int)) ∧ H dg = some (.lst (gs.map V.int)) ∧ dc ≠ dg ∧ cs.length = 64 ∧ Rng 2147483647 cs ∧ (∀ g ∈ gs, 0 ≤ g) ∧ gs.length ≤ 1000
theorem MAt.mono {H : Hp} {dm dc dg : Addr} {k j : Nat} (h : MAt H dm dc dg k) (l : k ≤ j) : MAt H dm dc dg j := by
  obtain ⟨n, cs, gs, hn, r⟩ := h.ex
  exact ⟨n, cs, gs, Nat.le_trans hn l, r⟩
theorem MAt.same {H H' : Hp} {dm dc dg : Addr} {k : Nat} (h : MAt H dm dc dg k) (s : Same H H') : MAt H' dm dc dg k := by
  obtain ⟨n, cs, gs, hn, h1, h2, h3, r⟩ := h.ex
  exact ⟨n, cs, gs, hn, s _ _ h1, s _ _ h2, s _ _ h3, r⟩
theorem MAt.ne {H : Hp} {dm dc dg : Addr} {k : Nat} (h : MAt H dm dc dg k) : dm ≠ dg := by
  obtain ⟨n, cs, gs, hn, h1, h2, h3, r⟩ := h.ex
  exact ne_of h1 h3 (by intro z; cases z)
theorem MAt.nm {H : Hp} {dm dc dg p : Addr} {k : Nat} (h : MAt H dm dc dg k) (n : H p = none) : p ≠ dm := by
  obtain ⟨n', cs, gs, hn, h1, h2, h3, r⟩ := h.ex
  exact (ne_of_none h1 n).symm
theorem MAt.ng {H : Hp} {dm dc dg p : Addr} {k : Nat} (h : MAt H dm dc dg k) (n : H p = none) : p ≠ dg := by
  obtain ⟨n', cs, gs, hn, h1, h2, h3, r⟩ := h.ex
  exact (ne_of_none h3 n).symm
theorem MAt.nc {H : Hp} {dm dc dg p : Addr} {k : Nat} (h : MAt H dm dc dg k) (n : H p = none) : p ≠ dc := by
  obtain ⟨n', cs, gs, hn, h1, h2, h3, r⟩ := h.ex
  exact (ne_of_none h2 n).symm
theorem MAt.put {H : Hp} {dm dc dg p : Addr} {o : HO} {k : Nat} (h : MAt H dm dc dg k) (n1 : p ≠ dm) (n2 : p ≠ dc) (n3 : p ≠ dg) : MAt (upd H p o) dm dc dg k := by
  obtain ⟨n', cs, gs, hn, h1, h2, h3, r⟩ := h.ex
  exact ⟨n', cs, gs, hn, by rw [upd_ne n1.symm]; exact h1, by rw [upd_ne n2.symm]; exact h2, by rw [upd_ne n3.symm]; exact h3, r⟩
/-! data: lists of whole numbers -/
theorem lay_ints : ∀ ns : List Int, PyData.canLayAll0 (ns.map PyData.int) = true
  | [] => by simp [PyData.canLayAll0]
  | n :: r => by
    rw [List.map_cons]
    simp only [PyData.canLayAll0, PyData.canLay0, Bool.true_and]
    exact lay_ints r
theorem depth_ints : ∀ ns : List Int, PyData.depthAll (ns.map PyData.int) = 0
  | [] => by simp [PyData.depthAll]
  | n :: r => by
    rw [List.map_cons]
    simp only [PyData.depthAll, PyData.depth, depth_ints r, Nat.max_self]
theorem shaped_ints (ns : List Int) : SeqAt.shaped (.list (ns.map PyData.int)) = true := by
  unfold SeqAt.shaped
  simp only [PyData.canLay0, lay_ints, PyData.depth, depth_ints, Bool.true_and]
  rfl
theorem dp_all_ints {K : PySem.W.Frag} {H : Hp} : ∀ ns : List Int, DpAll K H (ns.map V.int) (ns.map PyData.int)
  | [] => .nil
  | n :: r => .cons (.int n) (dp_all_ints r)
theorem dp_ints {K : PySem.W.Frag} {H : Hp} {a : Addr} {ns : List Int} (h : SqL K H a (ns.map V.int)) : Dp K H (.ref a) (.list (ns.map PyData.int)) := .lst h (dp_all_ints ns)
theorem eqv_ints_nil (ns : List Int) : PyData.eqv (.list (ns.map PyData.int)) (.list []) = ns.isEmpty := by
  cases ns with
  | nil => simp [PyData.eqv, PyData.eqvAll]
  | cons n r => simp [PyData.eqv, PyData.eqvAll]
theorem dp_nil {K : PySem.W.Frag} {H : Hp} {a : Addr} (h : SqL K H a []) : Dp K H (.ref a) (.list []) := .lst h .nil
theorem shaped_nil : SeqAt.shaped (.list []) = true := shaped_ints []
section
variable {P : Program} {w : World} {K : PySem.W.Frag} {mg : Str → Option Value} {base : Heap}
abbrev s_law_draw : Stmt := topS 13
theorem sc_law_draw : FnScope ["m", "top", "n", "at", "cell"] ["m", "top"] (defScope s_law_draw) := ⟨rfl, rfl, rfl, by decide +kernel, rfl, by decide +kernel, by decide +kernel⟩
def spDraw : Sp := fun vs H Q _ => ∃ (dm dc dg : Addr) (top : Int) (k : Nat), vs = [.ref dm, .int top] ∧ MAt H dm dc dg k ∧ k ≤ 100000 ∧ 1 ≤ top ∧ top ≤ 1000 ∧
  ∀ (H' : Hp) (r : Int), Kp dm dg H H' → MAt H' dm dc dg (k + 1) → 0 ≤ r → r < top → Q (.int r) H'
theorem ok_draw {f : Addr} {fd : FuncData} {k : Nat} (F : Fun K "_law_draw" "_law_draw" s_law_draw f fd) (T : Bl mg) (c_law_mixed : Cl P w K mg base 1 "_law_mixed" spMixed) : FnOk P w K mg base CX0 2 f fd ["m", "top"] spDraw := by
  refine F.ok sc_law_draw (fun vs H Q E h => ?_) (fun cdv A outer s H vs Q E hr h => ?_)
  · obtain ⟨dm, dc, dg, top, k, rfl, _⟩ := h
    rfl
  · obtain ⟨dm, dc, dg, top, k, rfl, M, hk, ht, ht2, q⟩ := h
    have hu := hu_of hr
    refine ⟨_, (pss_cons (ps_set (i := 2) sc_law_draw.nd rfl (.inl rfl) (pe_dget hu (pv 0) pe_str (fun _ _ => rfl)))
      (pss_cons (ps_dput hu (pv 0) pe_str (pe_op op_add (pv 2) pe_int) rfl)
      (pss_cons (ps_if (pt_cmpR (op_neD hr.units) (pe_dget hu (pv 0) pe_str (fun _ _ => rfl)) (pe_lst pa_nil) (nomark _)) (pss_cons (ps_set (i := 3) sc_law_draw.nd rfl (.inl rfl) (pe_op op_mod (pv 2) (pe_callB call_len_seq (by rfl) T.len PySem.boot_len (pa_cons (pe_dget hu (pv 0) pe_str (fun _ _ => rfl)) pa_nil))))
      (pss_cons (ps_set (i := 4) sc_law_draw.nd rfl (.inl rfl) (pe_ix ix_list (pe_dget hu (pv 0) pe_str (fun _ _ => rfl)) (pv 3) (fun _ _ => rfl)))
      (pss_one (ps_if (pt_cmpR op_gt (pv 4) pe_int (nomark _)) (pss_cons (ps_asg (pe_op op_fdivW (pv 4) (pv 1)) (pg_sub (pe_dget hu (pv 0) pe_str (fun _ _ => rfl)) (pv 3) set_list))
      (pss_one (ps_ret (pe_op op_mod (pv 4) (pv 1))))) pss_nil)))) pss_nil)
      (pss_one (ps_ret (pe_op op_mod (pe_cl c_law_mixed hr (by decide) (by rfl) (pa_cons (pe_cl c_law_mixed hr (by decide) (by rfl) (pa_cons (pe_op op_add (pe_ix ix_list (pe_dget hu (pv 0) pe_str (fun _ _ => rfl)) (pe_op op_mod (pv 2) pe_int) (fun _ _ => rfl)) (pe_op op_mul pe_int (pe_op op_fdiv (pv 2) pe_int))) (pa_cons (pv 2) pa_nil))) (pa_cons (pe_op op_add (pv 2) pe_int) pa_nil))) (pv 1))))))), ?_⟩
    walk_at "rd"
    obtain ⟨n, cs, gs, hn, h1, h2, h3, hne, hl, hR, hG, hgl⟩ := M.ex
    have nmg : dm ≠ dg := M.ne
    have nmc : dc ≠ dm := ne_of h2 h1 (by intro z; cases z)
    refine ⟨_, by have := DGet.k (k := Sum.inr "spot") h1; rw [mK_spot] at this; exact this, ?_⟩
    walk_at "rd"
    refine ⟨_, by have := DPut.k (k := Sum.inr "spot") (v := V.int ((n : Int) + 1)) h1 (by show 3 < sizeLine; decide); rw [mK_put] at this; exact this, ?_⟩
    walk_at "rd"
    have g1 : upd H dm (HO.dK (mK dc dg ((n : Int) + 1))) dm = some (HO.dK (mK dc dg ((n : Int) + 1))) := upd_same
    have g2 : upd H dm (HO.dK (mK dc dg ((n : Int) + 1))) dc = some (.lst (cs.map V.int)) := by rw [upd_ne nmc]; exact h2
    have g3 : upd H dm (HO.dK (mK dc dg ((n : Int) + 1))) dg = some (.lst (gs.map V.int)) := by rw [upd_ne nmg.symm]; exact h3
    have k1 : Kp dm dg H (upd H dm (HO.dK (mK dc dg ((n : Int) + 1)))) := (Kp.refl dm dg H).putm
    generalize upd H dm (HO.dK (mK dc dg ((n : Int) + 1))) = H1 at g1 g2 g3 k1 ⊢
    have dget_g : ∀ {H' : Hp}, H' dm = some (HO.dK (mK dc dg ((n : Int) + 1))) → DGet H' dm (V.str "great") (some (.ref dg)) := fun {H'} e => by
      have := DGet.k (k := Sum.inr "great") e
      rw [mK_great] at this
      exact this
    refine ⟨_, dget_g g1, Nat.zero_le _, fun l nl => ?_⟩
    have s1 : Same H1 (upd H1 l (.lst [])) := same_upd nl
    refine ⟨_, dp_ints (ns := gs) (SqL.of (s1 _ _ g3)), _, dp_nil (SqL.of upd_same), shaped_ints _, shaped_nil, ?_⟩
    replace g1 := s1 _ _ g1
    replace g2 := s1 _ _ g2
    replace g3 := s1 _ _ g3
    replace k1 := k1.trans (Kp.same s1)
    generalize upd H1 l (.lst []) = H2 at g1 g2 g3 k1 ⊢
    rw [eqv_ints_nil]
    refine ite2 (fun hc => ?_) (fun hc => ?_)
    · have hpos : 0 < gs.length := by
        cases gs with
        | nil => simp at hc
        | cons _ _ => simp
      have hj0 : n % gs.length < gs.length := Nat.mod_lt _ hpos
      have hx : ((n : Int) % ((gs.map V.int).length : Int)) = ((n % gs.length : Nat) : Int) := by
        rw [List.length_map]
        rfl
      refine ⟨_, dget_g g1, dg, rfl, _, .inl (SqL.of g3), ?_, _, dget_g g1, dg, rfl, _, SqL.of g3, _, atI_int hx hj0, _, rfl, ite2 (fun hd => ?_) (fun hd => ?_)⟩
      · rw [List.length_map]
        omega
      · have hd : 0 < gs[n % gs.length] := of_decide_eq_true hd
        refine ⟨_, rfl, wide_div (b := 10) (by omega) (by omega) (by decide) (by decide), _, dget_g g1, dg, rfl, _, g3, _, ixN_int hx hj0, _, rfl, by omega, q _ _ k1.putg ⟨n + 1, cs, gs.set (n % gs.length) (gs[n % gs.length] / top), by omega, ?_, ?_, ?_, hne, hl, hR, fun g hg => ?_, ?_⟩ (Int.emod_nonneg _ (by omega)) (Int.emod_lt_of_pos _ (by omega))⟩
        · rw [upd_ne nmg]
          exact g1
        · rw [upd_ne hne]
          exact g2
        · rw [upd_same, List.map_set]
        · rcases List.mem_or_eq_of_mem_set hg with z | z
          · exact hG g z
          · rw [z]
            exact Int.ediv_nonneg (by omega) (by omega)
        · rw [List.length_set]
          exact hgl
      · have hj : n % 64 < cs.length := by rw [hl]; exact Nat.mod_lt _ (by decide)
        have hb := hR.get (List.getElem?_eq_getElem hj)
        refine ⟨_, (by have := DGet.k (k := Sum.inr "cells") g1; rw [mK_cells] at this; exact this), by decide, dc, rfl, _, SqL.of g2, _, atI_int (j := n % 64) (by omega) hj, ⟨by decide, by decide⟩, .inl (by decide), _, rfl, ?_⟩
        refine ⟨_, _, rfl, ⟨by omega, by omega⟩, ⟨by omega, by omega⟩, fun r hr0 hr1 => ?_⟩
        refine ⟨r, _, rfl, ⟨hr0, by omega⟩, ⟨by omega, by omega⟩, fun r2 hr2 hr3 => ?_⟩
        refine ⟨_, rfl, by omega, q _ _ k1 ⟨n + 1, cs, gs, by omega, g1, g2, g3, hne, hl, hR, hG, hgl⟩ (Int.emod_nonneg _ (by omega)) (Int.emod_lt_of_pos _ (by omega))⟩
    · have hj : n % 64 < cs.length := by rw [hl]; exact Nat.mod_lt _ (by decide)
      have hb := hR.get (List.getElem?_eq_getElem hj)
      refine ⟨_, (by have := DGet.k (k := Sum.inr "cells") g1; rw [mK_cells] at this; exact this), by decide, dc, rfl, _, SqL.of g2, _, atI_int (j := n % 64) (by omega) hj, ⟨by decide, by decide⟩, .inl (by decide), _, rfl, ?_⟩
      refine ⟨_, _, rfl, ⟨by omega, by omega⟩, ⟨by omega, by omega⟩, fun r hr0 hr1 => ?_⟩
      refine ⟨r, _, rfl, ⟨hr0, by omega⟩, ⟨by omega, by omega⟩, fun r2 hr2 hr3 => ?_⟩
      refine ⟨_, rfl, by omega, q _ _ k1 ⟨n + 1, cs, gs, by omega, g1, g2, g3, hne, hl, hR, hG, hgl⟩ (Int.emod_nonneg _ (by omega)) (Int.emod_lt_of_pos _ (by omega))⟩
end
end CT
/-! part OPS -/
set_option Elab.async false
set_option linter.all false
set_option maxRecDepth 100000
set_option maxHeartbeats 4000000
namespace CT
open PySem PySem.Spec PyProof.Rows L2
/-! operators that a plain class of the text defines by its own methods: each by the method's promise -/
/-- the class at C has the method m, of which sp is promised (CX: how errors may leave it) -/
structure Op (CX : CXT) (P : Program) (w : World) (K : PySem.W.Frag) (mg : Str → Option Value) (base : Heap) (k : Nat) (C : Addr) (m : Str) (sp : Sp) : Prop where
  ex : ∃ f : Addr, FnR P w K mg base CX k f sp ∧ PySem.W.findIn K (.ref C) m = some (some (.ref f)) ∧ PySem.W.isFn K (.ref f) = true ∧ PySem.W.fnIn K f = true
section
variable {X : Cx} {CX : CXT} {pins : List (Addr × Obj)} {σ : L2.St} {H : Hp} {s : Shared} {k : Nat} {C a b dx : Addr} {m : Str} {sp : Sp} {E : XK} {fs : List (Str × V)} {u : Value} {y : V}
theorem run_own {f : Addr} {Q : VK} {us : List Value} {vs : List V} (F : FnR X.prog X.w X.K X.mg X.base CX k f sp) (hr : Room k X.A) (hx : Passes CX X E) (I : Inv X pins σ H s) (r : Vals vs us) (h : sp vs H Q E) :
    wpAny (model X.prog X.w) X.A (call (.ref f) us) (EP X pins σ Q) X.xe s := by
  refine wpAny_call (codeAny_mono (F X.A X.stack s H us vs Q E hr I.env0 r h) fun r s' hq => ?_)
  cases r with
  | error e => exact hx pins σ H s e s' I hq
  | ok fl =>
    cases fl with
    | ret u => exact I.after hq
    | next => exact False.elim hq
    | brk => exact False.elim hq
    | cont => exact False.elim hq
theorem run_in1 {f : Addr} {Q : VK} {us : List Value} {vs : List V} (F : FnR X.prog X.w X.K X.mg X.base CX k f sp) (hr : Room (k + 1) X.A) (hx : Passes CX X E) (I : Inv X pins σ H s) (r : Vals vs us) (h : sp vs H Q E) :
    wpAny (model X.prog X.w) X.A.in1 (call (.ref f) us) (EP X pins σ Q) X.xe s := by
  refine wpAny_call (codeAny_mono (F X.A.in1 X.stack s H us vs Q E hr.in1 I.env0.in1 r h) fun r s' hq => ?_)
  cases r with
  | error e => exact hx pins σ H s e s' I hq
  | ok fl =>
    cases fl with
    | ret u => exact I.after hq
    | next => exact False.elim hq
    | brk => exact False.elim hq
    | cont => exact False.elim hq
theorem own_at (I : Inv X pins σ H s) (e : H a = some (.ins C dx fs)) : ∃ od, PySem.W.InstAt s.heap a (PySem.W.instObj C dx) C (some od) := by
  obtain ⟨mA, J, _⟩ := ins_get I.hok e
  obtain ⟨od, J, _⟩ := J.look
  exact ⟨od, J⟩
/-- the value handed back stands for itself (no NotImplemented among V) -/
theorem back_of {Q : VK} {v : Value} {s' : Shared} (h : EP X pins σ Q v s') : PySem.W.CmpBack (EP X pins σ Q) v s' := by
  have ne : v ≠ .notImplemented := by
    rintro rfl
    obtain ⟨x, H', I, r, q⟩ := h
    cases x <;> first | (cases r; done) | (obtain ⟨t, r⟩ := r; cases r; done)
  cases v <;> first | exact h | exact absurd rfl ne
theorem vals2 {a : Addr} {y : V} {u : Value} (ry : RelV y u) : Vals [V.ref a, y] [Value.ref a, u] := .cons rfl (.cons ry .nil)
theorem vals1 {a : Addr} : Vals [V.ref a] [Value.ref a] := .cons rfl .nil
/-- a op b, an own comparison; b of a type that stands not ahead -/
def rCmp (K : PySem.W.Frag) (C : Addr) (sp : Sp) (E : XK) : R2 := fun x y H Q => ∃ a dx fs t, x = .ref a ∧ H a = some (.ins C dx fs) ∧ TyX K H y t ∧ PySem.W.notFirst K C t = true ∧ sp [x, y] H Q E
theorem op_cmp {op : CmpOp} (c : Op CX X.prog X.w X.K X.mg X.base k C (cmpInfo op).2.1 sp) (hop : compareOp op = richCompare op) (hr : Room k X.A) (hx : Passes CX X E) : OpR X (compareOp op) (rCmp X.K C sp E) := by
  intro pins s σ H x y v u Q I rx ry h
  obtain ⟨f, F, hs, hf, _⟩ := c.ex
  obtain ⟨a, dx, fs, t, rfl, e, ty, nf, h⟩ := h
  cases rx
  obtain ⟨od, J⟩ := own_at I e
  obtain ⟨P, kx, p, _⟩ := kit_of I ry ty
  obtain ⟨m0, hF⟩ := I.fr
  rw [hop]
  exact PySem.W.cmp_K (op := op) hr.units0 hF I.ok.mod.kin J (kx.ty _ _ I.kIn p) nf hs hf (wpAny_mono (run_own F hr hx I (vals2 ry) h) (fun _ _ z => back_of z) fun _ _ z => z)
/-- v in a, v not in a, by an own __contains__ that answers True or False -/
def rIn (neg : Bool) (C : Addr) (sp : Sp) (E : XK) : R2 := fun x y H Q => ∃ a dx fs, y = .ref a ∧ H a = some (.ins C dx fs) ∧ sp [y, x] H (fun v H' => ∃ b, v = .bl b ∧ Q (.bl (xor neg b)) H') E
theorem op_in (c : Op CX X.prog X.w X.K X.mg X.base k C "__contains__" sp) (hr : Room k X.A) (hx : Passes CX X E) : OpR X (compareOp .In) (rIn false C sp E) := by
  intro pins s σ H x y v u Q I rx ry h
  obtain ⟨f, F, hs, hf, _⟩ := c.ex
  obtain ⟨a, dx, fs, rfl, e, h⟩ := h
  cases ry
  obtain ⟨od, J⟩ := own_at I e
  obtain ⟨m0, hF⟩ := I.fr
  refine PySem.W.in_K hF I.ok.mod.kin J hs hf (wpAny_mono (run_own F hr hx I (vals2 rx) h) (fun r s' z => ?_) fun _ _ z => z)
  obtain ⟨v', H', I', rv, b, rfl, q⟩ := z
  cases rv
  cases b <;> exact wpAny_truthy_bool ⟨.bl _, H', I', rfl, q⟩
theorem op_notIn (c : Op CX X.prog X.w X.K X.mg X.base k C "__contains__" sp) (hr : Room k X.A) (hx : Passes CX X E) : OpR X (compareOp .NotIn) (rIn true C sp E) := by
  intro pins s σ H x y v u Q I rx ry h
  obtain ⟨f, F, hs, hf, _⟩ := c.ex
  obtain ⟨a, dx, fs, rfl, e, h⟩ := h
  cases ry
  obtain ⟨od, J⟩ := own_at I e
  obtain ⟨m0, hF⟩ := I.fr
  refine PySem.W.notIn_K hF I.ok.mod.kin J hs hf (wpAny_mono (run_own F hr hx I (vals2 rx) h) (fun r s' z => ?_) fun _ _ z => z)
  obtain ⟨v', H', I', rv, b, rfl, q⟩ := z
  cases rv
  cases b <;> exact wpAny_truthy_bool ⟨.bl _, H', I', rfl, q⟩
/-- a[y], by an own __getitem__ -/
def rItem (C : Addr) (sp : Sp) (E : XK) : R2 := fun x y H Q => ∃ a dx fs, x = .ref a ∧ H a = some (.ins C dx fs) ∧ sp [x, y] H Q E
structure PlainSub (slice : Expr) : Prop where
  at_ : ∀ o i, subscripted slice true o i = runValue (.builtin "lifetime.subscript" ⟨[o, i], []⟩)
theorem ix_own (c : Op CX X.prog X.w X.K X.mg X.base k C "__getitem__" sp) (hr : Room (k + 1) X.A) (hx : Passes CX X E) :
    ∀ (value slice : Expr), PlainSub slice → ∀ (pins : List (Addr × Obj)) (s : Shared) (σ : L2.St) (H : Hp) (x y : V) (v u : Value) (Q : VK), Inv X pins σ H s → RelV x v → RelV y u → rItem C sp E x y H Q →
      wpAny (model X.prog X.w) X.A (subscriptTail value slice v u) (EP X pins σ Q) X.xe s := by
  intro value slice ps pins s σ H x y v u Q I rx ry h
  obtain ⟨f, F, hs, hf, hfi⟩ := c.ex
  obtain ⟨a, dx, fs, rfl, e, h⟩ := h
  cases rx
  obtain ⟨od, J⟩ := own_at I e
  obtain ⟨m0, hF⟩ := I.fr
  exact PySem.W.sub_K hF I.ok.mod.kin J hs hfi hf (run_in1 F hr hx I (vals2 ry) h) (ps.at_ _ _)
variable {e i : Expr} {pos : Pos} {te ti : TE}
theorem pe_item (c : Op CX X.prog X.w X.K X.mg X.base k C "__getitem__" sp) (hr : Room (k + 1) X.A) (hx : Passes CX X E) (ha : PE X e te) (hb : PE X i ti) (ps : PlainSub i) : PE X (.Subscript e i pos) (tOp (rItem C sp E) te ti) := by
  refine ⟨fun pins s σ H Q I h => ?_⟩
  exact Subscript_ (binT ha hb I h fun v u s2 x y H2 I2 rx ry q => ix_own c hr hx e i ps pins s2 σ H2 x y v u Q I2 rx ry q)
/-- len(a), by an own __len__ -/
theorem call_lenO (c : Op CX X.prog X.w X.K X.mg X.base k C "__len__" sp) (hr : Room (k + 1) X.A) (hx : Passes CX X E) :
    CallR X (.builtin "len") (fun xs H Q => ∃ a dx fs, xs = [.ref a] ∧ H a = some (.ins C dx fs) ∧ sp xs H (fun v H' => ∃ n : Int, v = .int n ∧ 0 ≤ n ∧ n < 2 ^ 63 ∧ Q (.int n) H') E) := by
  intro pins s σ H xs us Q I r h
  obtain ⟨f, F, hs, hf, _⟩ := c.ex
  obtain ⟨a, dx, fs, rfl, e, h⟩ := h
  cases r with
  | cons r1 r2 =>
    cases r2
    cases r1
    obtain ⟨od, J⟩ := own_at I e
    obtain ⟨m0, hF⟩ := I.fr
    refine PySem.W.len_K hF I.ok.mod.kin J hs hf (wpAny_mono (run_in1 F hr hx I vals1 h) (fun r s' z => ?_) fun _ _ z => z)
    obtain ⟨v', H', I', rv, n, rfl, h0, h1, q⟩ := z
    obtain ⟨t, rfl⟩ := rv
    exact ⟨⟨h0, h1⟩, .int n, H', I'.tok _, ⟨_, rfl⟩, q⟩
end
end CT
/-! part OPS2 -/
set_option Elab.async false
set_option linter.all false
set_option maxRecDepth 100000
set_option maxHeartbeats 4000000
namespace CT
open PySem PySem.Spec PyProof.Rows L2
/-- the class at D (its bases: object alone) has neither the operator nor its reflected form -/
structure NoNum (K : PySem.W.Frag) (D : Addr) (nm : String) : Prop where
  mro : ∃ cd, PySem.W.clsIn K D = some cd ∧ cd.mro = [.ref D, .type "object"]
  l : PySem.W.findIn K (.ref D) (dunder nm) = some none
  r : PySem.W.findIn K (.ref D) (dunderR nm) = some none
  ol : PySem.W.findIn K (.type "object") (dunder nm) = some none
  or_ : PySem.W.findIn K (.type "object") (dunderR nm) = some none
section
open PySem.W
theorem fills_no {K : Frag} {M : Model} {h : Heap} {D : Addr} {nm : String} (X : K.In h) (z : NoNum K D nm) : Looks M h (fillsNumberSlot (.ref D) nm) false := by
  obtain ⟨cd, hc, hm⟩ := z.mro
  intro A Q E s k q
  unfold fillsNumberSlot
  refine wpAny_bind ((looks_clsIn X hc).andThen (f := fun cd => pure cd.mro) .now A _ E s k ?_)
  rw [hm, List.anyM_cons]
  refine wpAny_bind ?_
  show wpAny M A (List.anyM _ [PySem.dunder nm, dunderR nm]) _ _ _
  rw [List.anyM_cons]
  refine wpAny_bind (wpAny_bind (looks_findIn X z.l A _ E s k ?_))
  refine wpAny_pure ?_
  rw [if_neg Bool.false_ne_true, List.anyM_cons]
  refine wpAny_bind (wpAny_bind (looks_findIn X z.r A _ E s k ?_))
  refine wpAny_pure ?_
  rw [if_neg Bool.false_ne_true, List.anyM_nil]
  refine wpAny_pure ?_
  rw [if_neg Bool.false_ne_true, List.anyM_cons]
  refine wpAny_bind (wpAny_bind (looks_findIn X z.ol A _ E s k (wpAny_bind (looks_findIn X z.or_ A _ E s k ?_))))
  refine wpAny_pure ?_
  rw [if_neg (by simp), List.anyM_nil]
  exact wpAny_pure q
theorem binopN_K {prog : Program} {w : World} {A : Around} {E : Value → Shared → Prop} {s : Shared} {K : Frag} {x C D L f : Addr} {h₀ : Heap} {m : Str → Option Value} {ox : Obj} {od : Option Obj} {op : Operator} {b : Value} {Q : Value → Shared → Prop} (F : Fr h₀ L s.heap m) (X₀ : K.In h₀) (I : InstAt s.heap x ox C od) (hb : Looks (model prog w) s.heap (typeOf b) (.ref D)) (hc : selfFirst K C = true) (hne : C ≠ D)
    (z : NoNum K D op.info.2)
    (hs : findIn K (.ref C) (PySem.dunder op.info.2) = some (some (.ref f))) (hf : isFn K (.ref f) = true)
    (h : wpAny (model prog w) A (call (.ref f) [.ref x, b]) (PySem.W.CmpBack Q) E s) : wpAny (model prog w) A (binaryOp op (.ref x) b) Q E s := by
  have X := X₀.keeps F.keep
  obtain ⟨cd, hcd, hm⟩ := any_some hc
  obtain ⟨rest, hm⟩ : ∃ rest, cd.mro = .ref C :: rest := by
    cases q : cd.mro with
    | nil => rw [q] at hm; cases hm
    | cons a r => rw [q] at hm; exact ⟨r, by rw [List.head?_cons] at hm; cases (beq_iff_eq.mp hm); rfl⟩
  have hbne : (Value.ref C == Value.ref D) = false := by
    apply beq_eq_false_iff_ne.mpr
    intro e
    cases e
    exact hne rfl
  unfold binaryOp
  refine wpAny_holding (wpAny_bind ?_)
  unfold binaryOp1
  refine wpAny_bind (I.type.here (wpAny_bind (hb.here (wpAny_bind ((fills_K X hcd hm hs).here ?_)))))
  simp only [hbne, Bool.false_eq_true, if_false]
  refine wpAny_bind ((fills_no X z).here ?_)
  simp only [Bool.and_false, Bool.false_eq_true, if_false, Bool.false_and]
  refine wpAny_bind (wpAny_pure ?_)
  simp only [Bool.false_eq_true, if_false]
  refine wpAny_bind (m := tryMethod (.ref x) _ b) ?_
  unfold tryMethod
  refine wpAny_bind (special_fn X I hs (beq_iff_eq.mp hf) (wpAny_mono h (fun v s' hv => ?_) fun _ _ e => e))
  cases v <;> first | exact hv.elim | exact wpAny_pure (wpAny_pure (wpAny_pure hv))
end
section
variable {X : Cx} {CX : CXT} {k : Nat} {C : Addr} {sp : Sp} {E : XK}
/-- a op b: b of the same class, or of another class of the text without the operator -/
def rBin (K : PySem.W.Frag) (nm : String) (C : Addr) (sp : Sp) (E : XK) : R2 := fun x y H Q => ∃ a dx fs b D dy gs, x = .ref a ∧ y = .ref b ∧ H a = some (.ins C dx fs) ∧ H b = some (.ins D dy gs) ∧ (D = C ∨ (C ≠ D ∧ NoNum K D nm)) ∧ sp [x, y] H Q E
theorem op_bin {op : Operator} (c : Op CX X.prog X.w X.K X.mg X.base k C (dunder op.info.2) sp) (hc : PySem.W.selfFirst X.K C = true) (hr : Room k X.A) (hx : Passes CX X E) : OpR X (binaryOp op) (rBin X.K op.info.2 C sp E) := by
  intro pins s σ H x y v u Q I rx ry h
  obtain ⟨f, F, hs, hf, _⟩ := c.ex
  obtain ⟨a, dx, fs, b, D, dy, gs, rfl, rfl, e, e2, hD, h⟩ := h
  cases rx
  cases ry
  obtain ⟨od, J⟩ := own_at I e
  obtain ⟨od2, J2⟩ := own_at I e2
  obtain ⟨m0, hF⟩ := I.fr
  have run := wpAny_mono (run_own F hr hx I (vals2 (y := .ref b) (u := .ref b) rfl) h) (fun _ _ z => back_of z) (fun _ _ z => z)
  rcases hD with rfl | ⟨hne, z⟩
  · exact PySem.W.binop_K hF I.ok.mod.kin J J2.type hc hs hf run
  · exact binopN_K hF I.ok.mod.kin J J2.type hc hne z hs hf run
end
end CT
/-! part OPS3 -/
set_option Elab.async false
set_option linter.all false
set_option maxRecDepth 100000
set_option maxHeartbeats 4000000
namespace CT
open PySem PySem.Spec PyProof.Rows L2
/-! bundles: a property, a class that is made, a method, each with its promise -/
structure Prp (P : Program) (w : World) (K : PySem.W.Frag) (mg : Str → Option Value) (base : Heap) (k : Nat) (C : Addr) (f : Str) (sp : Sp) : Prop where
  ex : ∃ (p g : Addr) (fd : FuncData) (ps : List Str), Cls K C ∧ PropOf K C f p g ∧ FnOk P w K mg base CX0 k g fd ps sp ∧ Binds K fd ps []
structure Mk1 (CX : CXT) (P : Program) (w : World) (K : PySem.W.Frag) (mg : Str → Option Value) (base : Heap) (k : Nat) (x : Str) (C : Addr) (sp : Sp) : Prop where
  ex : ∃ f : Addr, Mk K C f ∧ FnR P w K mg base CX k f sp ∧ mg x = some (.ref C)
structure Me (CX : CXT) (P : Program) (w : World) (K : PySem.W.Frag) (mg : Str → Option Value) (base : Heap) (k : Nat) (C : Addr) (m : Str) (sp : Sp) : Prop where
  ex : ∃ (f : Addr) (fd : FuncData) (ps : List Str), Cls K C ∧ Meth K C m f ∧ FnOk P w K mg base CX k f fd ps sp ∧ Binds K fd ps []
section
variable {X : Cx} {CX : CXT} {k j : Nat} {C : Addr} {sp : Sp} {E : XK} {x f m : Str} {e o : Expr} {es : List Expr} {te ta : TE} {t : TA} {p pos apos sp_ : Pos}
theorem pe_pr (he : PE X e ta) (c : Prp X.prog X.w X.K X.mg X.base k C f sp) (hr : Room j X.A) (hk : k + 1 ≤ j) (hab : attributeBase e f X.env (eval e X.env) = eval e X.env) : PE X (.Attribute e f pos) (tProp C sp [] E0 ta) := by
  obtain ⟨p, g, fd, ps, cl, hp, F, hb⟩ := c.ex
  exact pe_prop he cl hp F (hr.mono hk) hb .nil (fun _ _ _ _ _ _ _ h => h.elim) hab
theorem pe_mkR (c : Mk1 CX X.prog X.w X.K X.mg X.base k x C sp) (hr : Room j X.A) (hk : k + 1 ≤ j) (hg : Gl X x) (hx : Passes CX X E) (ha : PA X (e :: es) t) (hdb : (x == ("__debug__" : Str)) = false := by decide)
    (he : starEach (e :: es) X.env = (false, eval e X.env) :: starEach es X.env := by rfl) (hpl : (backTo pos (starEach es X.env)).any (·.1) = false := by rfl) : PE X (.Call (.Name x p) (e :: es) [] pos) (StX.tMakeR C sp E t) := by
  obtain ⟨f, M, F, hm⟩ := c.ex
  exact StX.pe_makeR M F (hr.mono hk) hg hm hx ha hdb he hpl
theorem pe_mkR0 (c : Mk1 CX X.prog X.w X.K X.mg X.base k x C sp) (hr : Room j X.A) (hk : k + 1 ≤ j) (hg : Gl X x) (hx : Passes CX X E) (hdb : (x == ("__debug__" : Str)) = false := by decide) :
    PE X (.Call (.Name x p) [] [] pos) (StX.tMakeR C sp E tNil) := by
  obtain ⟨f, M, F, hm⟩ := c.ex
  refine ⟨fun pins s σ H Q I h => ?_⟩
  refine wpAny_Call_Name_kw (ld_glob I hg hm ?_ hdb)
  exact PySem.W.callWith_K0 I.kIn M.kp (StX.run_makeR (us := []) M F (hr.mono hk) hx I .nil h)
/-- C( *y) -/
def tMakeS (K : PySem.W.Frag) (C : Addr) (sp : Sp) (E : XK) (te : TE) : TE := fun σ H Q => te σ H fun y H1 => ∃ a xs, y = V.ref a ∧ (SqT K H1 a xs ∨ SqL K H1 a xs) ∧ ∀ x dx, H1 x = Option.none → H1 dx = Option.none → dx ≠ x →
  sp (V.ref x :: xs) (upd (upd H1 dx (.own x)) x (.ins C dx [])) (fun v H2 => v = .non ∧ Q (.ref x) H2) E
theorem pe_mkS (c : Mk1 CX X.prog X.w X.K X.mg X.base k x C sp) (hr : Room j X.A) (hk : k + 1 ≤ j) (hg : Gl X x) (hx : Passes CX X E) (he : PE X e te) (hdb : (x == ("__debug__" : Str)) = false := by decide)
    (hst : starEach [.Starred e sp_] X.env = [(true, eval e X.env)] := by rfl) : PE X (.Call (.Name x p) [.Starred e sp_] [] pos) (tMakeS X.K C sp E te) := by
  obtain ⟨f, M, F, hm⟩ := c.ex
  refine ⟨fun pins s σ H Q I h => ?_⟩
  refine wpAny_Call_Name_kw (ld_glob I hg hm ?_ hdb)
  refine PySem.W.callWith_S (h₀ := X.base) I.ok.mod.kin M.kp (thn (he.run pins s σ H _ I h) fun v s1 ⟨y, H1, I1, ry, a, xs, ey, hxs, q⟩ => ?_) hst
  subst ey
  obtain rfl : v = Value.ref a := ry
  exact StX.star_any I1 hxs fun us s2 I2 rv => ⟨I2.kIn, StX.run_makeR M F (hr.mono hk) hx I2 rv q⟩
theorem pe_me {pl : Sem Bool} (c : Me CX X.prog X.w X.K X.mg X.base k C m sp) (hr : Room j X.A) (hk : k ≤ j) (hx : Passes CX X E) (he : PE X o ta) (ha : PA X (e :: es) t)
    (hst : starEach (e :: es) X.env = (false, eval e X.env) :: starEach es X.env := by rfl) (hpl : (backTo pos (starEach es X.env)).any (·.1) = false := by rfl)
    (ht : eval (.Call (.Attribute o m apos) (e :: es) [] pos) X.env = (do
      let ov ← eval o X.env
      standAt apos.atName
      let (f, first) ← holding [ov] (getMethod ov m pl)
      callWith pos f first (backTo pos (starEach (e :: es) X.env)) (backToKw pos (keywordEach [] X.env))) := by rfl) : PE X (.Call (.Attribute o m apos) (e :: es) [] pos) (tMeth C m sp [] E ta t) := by
  obtain ⟨f, fd, ps, cl, hm, F, hb⟩ := c.ex
  exact pe_meth he cl hm F (hr.mono hk) hb .nil hx ha hst hpl ht
theorem pe_me0 {pl : Sem Bool} (c : Me CX X.prog X.w X.K X.mg X.base k C m sp) (hr : Room j X.A) (hk : k ≤ j) (hx : Passes CX X E) (he : PE X o ta)
    (ht : eval (.Call (.Attribute o m apos) [] [] pos) X.env = (do
      let ov ← eval o X.env
      standAt apos.atName
      let (f, first) ← holding [ov] (getMethod ov m pl)
      callWith pos f first (backTo pos (starEach [] X.env)) (backToKw pos (keywordEach [] X.env))) := by rfl) : PE X (.Call (.Attribute o m apos) [] [] pos) (tMeth C m sp [] E ta tNil) := by
  obtain ⟨f, fd, ps, cl, hm, F, hb⟩ := c.ex
  exact pe_meth0 he cl hm F (hr.mono hk) hb .nil hx ht
end
end CT
/-! part OPSN -/
set_option Elab.async false
set_option linter.all false
set_option maxRecDepth 100000
set_option maxHeartbeats 4000000
namespace CT
open PySem PySem.Spec PyProof.Rows L2
/-! a != b by an own __eq__ alone; a > b by the own __lt__ of b -/
namespace Gt
theorem entry : entryFor table "object.__gt__" = some Builtin.«object.__gt__» := entryFor_of_tree (by kernel_rfl)
theorem kind : builtinKind "object.__gt__" = some .slot := by decide +kernel
theorem split : splitId "object.__gt__" = some ("object", "__gt__") := by decide +kernel
theorem args (a b : Value) : argsOk "object.__gt__" ⟨[a, b], []⟩ := by unfold argsOk; kernel_rfl
theorem slot : Slot "object" "__gt__" "object.__gt__" :=
  .of (owner := "object") (n := "__gt__") (by rw [typeLookup_type, builtinLookup_eq_fast]; kernel_rfl) (by decide +kernel) (by decide +kernel) (by decide +kernel)
    (by first | exact .inl (by decide +kernel) | exact .inr (by decide +kernel)) (by rw [isSubtype_type]; kernel_rfl)
end Gt
section
open PySem.W
variable {prog : Program} {w : World} {A : Around} {E : Value → Shared → Prop} {s : Shared} {K : Frag} {x C L f : Addr} {h₀ : Heap} {m : Str → Option Value} {ox : Obj} {od : Option Obj} {tb b : Value} {name : Str} {args : List Value}
theorem ifBound_blt {M : Model} {id : String} {Q : Option Value → Shared → Prop} (X : K.In s.heap) (I : InstAt s.heap x ox C od) (hs : findIn K (.ref C) name = some (some (.builtin id))) (hb : ∀ self, bindSpecial (.builtin id) self = pure (.builtin id, [self]))
    (h : wpAny M A (call (.builtin id) (.ref x :: args)) (fun v => Q (some v)) E s) : wpAny M A (callSpecialIfBound? (.ref x) name args) Q E s := by
  simp only [callSpecialIfBound?, bindSpecialIfBound?]
  refine wpAny_holding (wpAny_bind (wpAny_bind (wpAny_bind (I.type.here ((looks_findIn X hs).here ?_)))))
  refine wpAny_bind (wpAny_askSetting (wpAny_ite ?_))
  have out : wpAny M A (call (.builtin id) ([.ref x] ++ args) >>= fun v => pure (some v)) Q E s := wpAny_bind (wpAny_mono h (fun v s' h' => wpAny_pure h') fun _ _ h' => h')
  split
  · exact wpAny_bind (wpAny_of_eq (hb _) (wpAny_pure (by exact out)))
  · exact wpAny_tryCatch (wpAny_bind (wpAny_of_eq (hb _) (wpAny_pure (by exact out))))
theorem not_first {Q : Value → Shared → Prop} {op : CmpOp} (hu : A.units < cLine) (X : K.In s.heap) (I : InstAt s.heap x ox C od) (hb : Looks (model prog w) s.heap (typeOf b) tb) (hn : notFirst K C tb = true)
    (h : wpAny (model prog w) A (tryCompare (.ref x) (cmpInfo op).2.1 b) (fun r s' => match r with
      | some v => Q v s'
      | none => wpAny (model prog w) A (tryCompare b (cmpInfo op).2.2 (.ref x)) (fun r2 s2 => ∃ v, r2 = some v ∧ Q v s2) E s') E s) : wpAny (model prog w) A (richCompare op (.ref x) b) Q E s := by
  have go : ∀ {s' : Shared} {r : Option Value}, (match r with
      | some v => Q v s'
      | none => wpAny (model prog w) A (tryCompare b (cmpInfo op).2.2 (.ref x)) (fun r2 s2 => ∃ v, r2 = some v ∧ Q v s2) E s') → True := fun _ => trivial
  unfold richCompare
  simp only [oneThing_ref]
  refine wpAny_holding (wpAny_bind (wpAny_cRoomFor hu ?_))
  refine wpAny_bind (I.type.here (wpAny_bind (hb.here ?_)))
  split
  · rename_i q
    have e : subIn K tb (.ref C) = some false := by
      rcases Bool.or_eq_true_iff.mp hn with e | e
      · rw [beq_iff_eq.mp e] at q; simp at q
      · exact beq_iff_eq.mp e
    refine wpAny_bind ((looks_subIn X e).here ?_)
    simp only [Bool.false_eq_true, if_false]
    refine wpAny_bind (wpAny_mono h (fun r s' z => ?_) fun _ _ e => e)
    cases r with
    | some v => exact wpAny_pure z
    | none =>
      simp only [Bool.not_false, if_true]
      refine wpAny_bind (wpAny_mono z (fun r2 s2 y => ?_) fun _ _ e => e)
      obtain ⟨v, rfl, y⟩ := y
      exact wpAny_pure y
  · refine wpAny_bind (wpAny_pure ?_)
    simp only [Bool.false_eq_true, if_false]
    refine wpAny_bind (wpAny_mono h (fun r s' z => ?_) fun _ _ e => e)
    cases r with
    | some v => exact wpAny_pure z
    | none =>
      simp only [Bool.not_false, if_true]
      refine wpAny_bind (wpAny_mono z (fun r2 s2 y => ?_) fun _ _ e => e)
      obtain ⟨v, rfl, y⟩ := y
      exact wpAny_pure y
theorem ne_own {Q : Value → Shared → Prop} (hu : A.units + 2 < cLine) (X : K.In s.heap) (I : InstAt s.heap x ox C od) (hb : Looks (model prog w) s.heap (typeOf b) tb) (hn : notFirst K C tb = true)
    (hne : findIn K (.ref C) "__ne__" = some (some (.builtin "object.__ne__"))) (heq : findIn K (.ref C) "__eq__" = some (some (.ref f))) (hf : isFn K (.ref f) = true) (hob : mroIn K C (.type "object") = some true)
    (h : wpAny (model prog w) A.in1 (call (.ref f) [.ref x, b]) (fun v s' => ∃ bb, v = .bool bb ∧ Q (.bool (!bb)) s') E s) : wpAny (model prog w) A (richCompare .NotEq (.ref x) b) Q E s := by
  refine not_first (by omega) X I hb hn ?_
  unfold tryCompare
  refine wpAny_bind (ifBound_blt X I hne (fun self => F.cmp_object.ne.bind self) ?_)
  have sub : Looks (model prog w) s.heap (isInstance (.ref x) (.type "object")) true := I.type.andThen (looks_mroIn X hob)
  refine wpAny_call (codeAny_call_builtin F.cmp_object.ne.plain F.cmpEntry_ne (@check_slot (model prog w) _ _ s "object.__ne__" "object" "__ne__" (.ref x) [b] [] _ F.cmpKind_ne F.cmpSplit_ne sub (F.cmpArgs_ne _ _) ?_))
  unfold Builtin.«object.__ne__»
  refine wpAny_bind (wpAny_of_eq (a := (.ref x, [b])) (by first | rfl | kernel_rfl) ?_)
  refine wpAny_bind (wpAny_cRoomFor (by show A.units + 1 < cLine; omega) ?_)
  refine wpAny_bind (ifBound_K X I heq hf (wpAny_mono h (fun v s' hv => ?_) fun _ _ e => e))
  obtain ⟨bb, rfl, q⟩ := hv
  refine wpAny_bind (wpAny_truthy_bool ?_)
  exact wpAny_pure (wpAny_pure q)
theorem gt_own {y : Addr} {oy : Obj} {ody : Option Obj} {Q : Value → Shared → Prop} (hu : A.units + 2 < cLine) (X : K.In s.heap) (I : InstAt s.heap x ox C od) (J : InstAt s.heap y oy C ody) (hn : notFirst K C (.ref C) = true)
    (hgt : findIn K (.ref C) "__gt__" = some (some (.builtin "object.__gt__"))) (hlt : findIn K (.ref C) "__lt__" = some (some (.ref f))) (hf : isFn K (.ref f) = true) (hob : mroIn K C (.type "object") = some true)
    (h : wpAny (model prog w) A (call (.ref f) [.ref y, .ref x]) (PySem.W.CmpBack Q) E s) : wpAny (model prog w) A (richCompare .Gt (.ref x) (.ref y)) Q E s := by
  refine not_first (by omega) X I J.type hn ?_
  unfold tryCompare
  refine wpAny_bind (ifBound_blt X I hgt (fun self => Gt.slot.bind self) ?_)
  have sub : Looks (model prog w) s.heap (isInstance (.ref x) (.type "object")) true := I.type.andThen (looks_mroIn X hob)
  refine wpAny_call (codeAny_call_builtin Gt.slot.plain Gt.entry (@check_slot (model prog w) _ _ s "object.__gt__" "object" "__gt__" (.ref x) [.ref y] [] _ Gt.kind Gt.split sub (Gt.args _ _) ?_))
  refine wpAny_of_eq (a := .done (.ret .notImplemented)) (by first | rfl | kernel_rfl) ?_
  show wpAny _ _ (pure none) _ _ _
  refine wpAny_pure ?_
  show wpAny _ _ _ _ _ _
  refine wpAny_bind (ifBound_K X J hlt hf (wpAny_mono h (fun v s' hv => ?_) fun _ _ e => e))
  cases v <;> first | exact hv.elim | exact wpAny_pure ⟨_, rfl, hv⟩
end
section
variable {X : Cx} {CX : CXT} {k : Nat} {C : Addr} {sp : Sp} {E : XK}
/-- what the class at C takes from object -/
structure NoNe (K : PySem.W.Frag) (C : Addr) : Prop where
  ne : PySem.W.findIn K (.ref C) "__ne__" = some (some (.builtin "object.__ne__"))
  gt : PySem.W.findIn K (.ref C) "__gt__" = some (some (.builtin "object.__gt__"))
  ob : PySem.W.mroIn K C (.type "object") = some true
  nf : PySem.W.notFirst K C (.ref C) = true
/-- a != b by the own == -/
def rNeO (K : PySem.W.Frag) (C : Addr) (sp : Sp) (E : XK) : R2 := fun x y H Q => ∃ a dx fs t, x = .ref a ∧ H a = some (.ins C dx fs) ∧ TyX K H y t ∧ PySem.W.notFirst K C t = true ∧ sp [x, y] H (fun v H' => ∃ b, v = .bl b ∧ Q (.bl (!b)) H') E
theorem op_neO (c : Op CX X.prog X.w X.K X.mg X.base k C "__eq__" sp) (T : NoNe X.K C) (hr : Room (k + 1) X.A) (hx : Passes CX X E) : OpR X (compareOp .NotEq) (rNeO X.K C sp E) := by
  intro pins s σ H x y v u Q I rx ry h
  obtain ⟨f, F, hs, hf, _⟩ := c.ex
  obtain ⟨a, dx, fs, t, rfl, e, ty, nf, h⟩ := h
  cases rx
  obtain ⟨od, J⟩ := own_at I e
  obtain ⟨P, kx, p, _⟩ := kit_of I ry ty
  have hu := hr.un
  refine ne_own (by omega) I.kIn J (kx.ty _ _ I.kIn p) nf T.ne hs hf T.ob (wpAny_mono (run_in1 F hr hx I (vals2 ry) h) (fun r s' z => ?_) fun _ _ z => z)
  obtain ⟨v', H', I', rv, b, rfl, q⟩ := z
  cases rv
  exact ⟨b, rfl, .bl _, H', I', rfl, q⟩
/-- a > b by b's own < -/
def rGtO (C : Addr) (sp : Sp) (E : XK) : R2 := fun x y H Q => ∃ a dx fs b dy gs, x = .ref a ∧ H a = some (.ins C dx fs) ∧ y = .ref b ∧ H b = some (.ins C dy gs) ∧ sp [y, x] H Q E
theorem op_gtO (c : Op CX X.prog X.w X.K X.mg X.base k C "__lt__" sp) (T : NoNe X.K C) (hr : Room k X.A) (hx : Passes CX X E) : OpR X (compareOp .Gt) (rGtO C sp E) := by
  intro pins s σ H x y v u Q I rx ry h
  obtain ⟨f, F, hs, hf, _⟩ := c.ex
  obtain ⟨a, dx, fs, b, dy, gs, rfl, e, rfl, e2, h⟩ := h
  cases rx
  cases ry
  obtain ⟨od, J⟩ := own_at I e
  obtain ⟨od2, J2⟩ := own_at I e2
  have hu := hr.un
  exact gt_own (by omega) I.kIn J J2 T.nf T.gt hs hf T.ob (wpAny_mono (run_own F hr hx I (vals2 (y := .ref a) rfl) h) (fun _ _ z => back_of z) fun _ _ z => z)
end
end CT
/-! part EXC -/
set_option Elab.async false
set_option linter.all false
set_option maxRecDepth 100000
set_option maxHeartbeats 4000000
namespace CT
open PySem PySem.Spec PyProof.Rows L2
/-! an own exception's __init__ that says super().__init__('..') first -/
/-- the context of its body, entered at s -/
def supCx (CX : CXT) (P : Program) (w : World) (K : PySem.W.Frag) (mg : Str → Option Value) (base : Heap) (N : List Str) (qual : Str) (scope : Scope) (f : Addr) (cd : Value) (cc : Addr) (A : Around) (outer : List Env) (s : Shared) (H : Hp) (E : XK) : Cx where
  prog := P
  w := w
  K := K
  mg := mg
  base := base
  A := A.deeper (PySem.W.ksEnv qual scope s.heap.objs.size f cd cc)
  N := N
  s_0 := s
  H_0 := H
  env := PySem.W.ksEnv qual scope s.heap.objs.size f cd cc
  outer := outer
  stack := PySem.W.ksEnv qual scope s.heap.objs.size f cd cc :: outer
  ex := []
  calm := true
  fn := fun _ => false
  pn := []
  xe := fun e s' => wpAny (model P w) (A.deeper (PySem.W.ksEnv qual scope s.heap.objs.size f cd cc)) (leaving (PySem.W.ksEnv qual scope s.heap.objs.size f cd cc) e) (fun _ s'' => CX outer H s E e s'') (fun e' s'' => CX outer H s E e' s'') s'
/-- its names -/
structure SupS (N ps : List Str) (sc : Scope) : Prop where
  kind : sc.kind = .function
  co : sc.isCoroutine = false
  gen : sc.isGenerator = false
  nd : N.Nodup
  pre : N = ps
  loc : ∀ x ∈ ps, sc.names.lookup x = some .local
  nocell : ∀ y ∈ sc.names, y.2 ≠ .cell
  sup : sc.names.lookup ("super" : Str) = some .globalImplicit
  cls : sc.names.lookup ("__class__" : Str) = some .free
  onefree : ∀ x, sc.names.lookup x = some .free → x = "__class__"
section
variable {CX : CXT} {P : Program} {w : World} {K : PySem.W.Frag} {mg : Str → Option Value} {base : Heap} {A : Around} {outer : List Env} {s : Shared} {H : Hp}
theorem lookup_rev {ps : List Str} {us : List Value} (nd : ps.Nodup) (hl : us.length = ps.length) {i : Nat} {x : Str} {u : Value} (hx : ps[i]? = some x) (hu : us[i]? = some u) : (ps.zip us).reverse.lookup x = some u := by
  induction ps generalizing us i with
  | nil => simp at hx
  | cons p r ih =>
    cases us with
    | nil => simp at hu
    | cons v us =>
      rw [List.zip_cons_cons, List.reverse_cons]
      have nd' := List.nodup_cons.mp nd
      cases i with
      | zero =>
        simp only [List.getElem?_cons_zero, Option.some.injEq] at hx hu
        subst hx hu
        have hno : (r.zip us).reverse.lookup p = none := by
          apply List.lookup_eq_none_iff.mpr
          intro q hq
          have := List.of_mem_zip (List.mem_reverse.mp hq)
          simp only [bne_iff_ne, ne_eq, beq_eq_false_iff_ne]
          intro e
          exact nd'.1 (e ▸ this.1)
        rw [List.lookup_append, hno]
        simp
      | succ i =>
        simp only [List.getElem?_cons_succ] at hx hu
        rw [List.lookup_append, ih nd'.2 (by simpa using hl) hx hu]
        rfl
theorem inv_sup {N ps : List Str} {qual : Str} {scope : Scope} {f cc : Addr} {cd : Value} {E : XK} {us : List Value} {vs : List V} {h₁ : Heap} {tk : Nat} {occ : Obj} {vcc : Value}
    (S : SupS N ps scope) (hd : A.handled = none) (e0 : Env0 P w K mg base A outer s H) (hl : vs.length = ps.length) (r : Vals vs us)
    (hcc : base.get? cc = some occ) (hcv : occ.data = .cell (some vcc))
    (hns : h₁.Ns s.heap.objs.size fun x => (ps.zip us).reverse.lookup x) (kp : ∀ b o, s.heap.get? b = some o → h₁.get? b = some o) :
    Inv (supCx CX P w K mg base N qual scope f cd cc A outer s H E) [] (L2.start N vs) H { s with heap := h₁, toks := tk } := by
  have noA : ∀ b : Addr, b ∉ (supCx CX P w K mg base N qual scope f cd cc A outer s H E).ex := fun b z => absurd (show b ∈ ([] : List Addr) from z) (by simp)
  have cl1 : ∀ {y c}, ([(("__class__" : Str), cc)] : List (Str × Addr)).lookup y = some c → y = "__class__" ∧ c = cc := fun {y c} e => by
    rw [List.lookup_cons] at e
    by_cases q : (y == ("__class__" : Str)) = true
    · rw [q] at e
      exact ⟨eq_of_beq q, (Option.some.inj e).symm⟩
    · have q' : (y == ("__class__" : Str)) = false := by simpa using q
      rw [q'] at e
      cases e
  have hcs := e0.bs cc occ hcc
  refine ⟨⟨e0.mod, S.kind, rfl, rfl, Nat.le_refl _, fun y z c e1 e2 => (cl1 e1).1.trans (cl1 e2).1.symm, fun y hy => ?_, fun y c z _ => ?_, fun _ => hd, Around.frames_deeper e0.frames, .inr ⟨rfl, rfl⟩, fun b z => absurd z (noA b), e0.bs, e0.bsz, fun b _ _ => noA b,
      fun b z => absurd z (noA b), e0.funs, e0.frf⟩,
    rfl, e0.bare, Un.kept kp, ⟨_, hns, fun i y v e1 e2 e3 => ?_⟩, fun y c e => ?_, e0.hok.fresh (Nat.le_refl _), fun y c e => ?_, fun q hq => absurd (show q ∈ ([] : List (Addr × Obj)) ++ [] from hq) (by simp), e0.hok.kept kp, ?_⟩
  · rcases hy with hy | hy
    · have hy : scope.names.lookup y = some .cell := hy
      exact absurd rfl (S.nocell _ (PySem.mem_of_lookup hy))
    · have hy : scope.names.lookup y = some .free := hy
      rw [S.onefree y hy]
      exact ⟨cc, rfl⟩
  · cases z
  · have hi : i < vs.length := by
      rw [hl, ← S.pre]
      exact (List.getElem?_eq_some_iff.mp e1).1
    have e1' : ps[i]? = some y := by rw [← S.pre]; exact e1
    have ev : vs[i]? = some v := by
      have e2' : (L2.start N vs)[i]? = some (some v) := e2
      unfold L2.start at e2'
      rw [List.getElem?_append_left (by simpa using hi), List.getElem?_map] at e2'
      cases q : vs[i]? with
      | none => rw [q] at e2'; cases e2'
      | some a => rw [q] at e2'; cases e2'; rfl
    obtain ⟨u, hu, ru⟩ := r.get ev
    exact ⟨u, ru, .inl ⟨S.loc y (List.mem_of_getElem? e1'), lookup_rev (S.pre ▸ S.nd) (by rw [← r.length]; exact hl) e1' hu⟩⟩
  · obtain ⟨_, ec⟩ := cl1 e
    subst ec
    exact ⟨some vcc, occ, kp _ _ hcs.1, hcv⟩
  · obtain ⟨_, ec⟩ := cl1 e
    subst ec
    exact hcs.2
  · show (L2.start N vs).length = N.length
    unfold L2.start
    rw [List.length_append, List.length_map, List.length_replicate, hl, S.pre]
    omega
end
/-! ### the method-wrapper called -/
section
open PySem.W PySem.Calls
variable {prog : Program} {w : World} {A : Around} {E : Value → Shared → Prop} {h : Heap} {g : Array GenState} {d : Drawn} {t : Nat} {os : OsState}
variable {nm q : Str} {C N : Addr} {bs bm : List Value} {hdct : Bool} {sn : List Str} {sub : List Value} {ab : Bool} {col : Option Bool} {dd : Option Addr} {k0 k1 k2 k3 k5 : Option Value}
theorem mw_called {u x t0 : Addr} {rest : List Value} {Q : Value → Shared → Prop} (hC : h.get? C = some (excClassObj nm q C N bs bm hdct sn sub ab col dd k0 k1 k2 k3 k5 "ValueError.__new__"))
    (hx : h.get? x = some (HandSPX.excO C t0)) (hu : h.get? u = some (kxs_mw "ValueError.__init__" x)) (hz : rest.length ≤ sizeLine)
    (hq : ∀ h' t1, (∀ b o, b ≠ x → h.get? b = some o → h'.get? b = some o) → h'.get? x = some (HandSPX.excO C t1) → Q .none ⟨h', g, d, t, os⟩) :
    wpAny (model prog w) A (call (.ref u) rest) Q E ⟨h, g, d, t, os⟩ := by
  refine wpAny_call (codeAny_of_tree ?_)
  show wpAny _ A.in1 (callAny (.ref u) ⟨rest, []⟩) _ _ _
  simp only [callAny]
  refine wpAny_bind (wpAny_load hu ?_)
  have hmw : (Value.type "method-wrapper" == Value.type "method" || Value.type "method-wrapper" == Value.type "builtin_function_or_method" || Value.type "method-wrapper" == Value.type "method-wrapper") = true := by decide
  simp only [kxs_mw, hmw, if_true]
  refine PySem.W.KFB.if_so (by decide) ?_
  refine wpAny_bind (check_bound_init F.excBase_ValueError.toExcCallFacts hC hx rfl ?_)
  refine wpAny_bind (wpAny_pure (wpAny_pure ?_))
  refine ⟨plainId_quiet F.excBase_ValueError.init.plain _, codeAny_builtin F.excBase_ValueError.initEntry ?_⟩
  exact exc_init_tree (cls := .ref C) (t0 := t0) (dv := none) (c2 := .none) (c3 := .none) (b4 := .bool false) hx hz fun h' k hx' _ => hq h' _ k hx'
end
/-- an own exception's __init__ as it stands behind the top: its code, its cell __class__ (the class at C itself) -/
structure SupFn (P : Program) (K : PySem.W.Frag) (base : Heap) (C : Addr) (name qual : Str) (params : Arguments) (body : List Stmt) (scope : Scope) (f : Addr) (fd : FuncData) : Prop where
  ex : ∃ (oc : Value) (od : Option Addr) (dV kV doc pm : Value) (an : Option Addr) (cda : Addr) (ct : Value) (osl : Array (Option Value)) (cc : Addr) (ccl : Value) (cdd : Option Addr) (vs : Array Value) (ccs : Array (Option Value)) (file : Str) (tf : Tok) (cl : Value) (cld : Option Addr) (csl : Array (Option Value)),
    fd = PySem.W.ksFn name qual params body scope dV kV doc pm an (.ref cda) ct cc ∧ K.lookup f = some ⟨oc, od, .func fd, osl⟩ ∧ PySem.W.codeIn K (.ref cda) qual = true ∧
    K.lookup cda = some ⟨ccl, cdd, .fields vs, ccs⟩ ∧ vs[2]? = some (.str file tf) ∧ ((P.main.file : Str) == file) = true ∧ K.lookup cc = some ⟨cl, cld, .cell (some (.ref C)), csl⟩
/-- what its class must be, besides -/
structure SupC (P : Program) (K : PySem.W.Frag) (C : Addr) (scope : Scope) : Prop where
  cls : OexC K C
  sub : PySem.W.mroIn K C (.ref C) = some true
  subV : PySem.W.subIn K (.ref C) (.type "ValueError") = some true
  sup : PySem.W.ks_superIn K C C "__init__" = some (some (.builtin "ValueError.__init__"))
  stat : PySem.W.nsIn K cStatics "thirdparty.any" = some none
  top : (P.main.scope.names.lookup ("super" : Str)).isSome = false
section
variable {CX : CXT} {P : Program} {w : World} {K : PySem.W.Frag} {mg : Str → Option Value} {base : Heap}
theorem fn_sup {pl : Addr → Value → Addr → Sem Bool} {k : Nat} {C f : Addr} {fd : FuncData} {name qual : Str} {params : Arguments} {lit : Str} {j0 : Nat} {p0 p1 p2 p3 p4 p5 : Pos} {rest : List Stmt} {scope : Scope} {N ps : List Str} {sp : Sp}
    (FF : SupFn P K base C name qual params (.Expr (.Call (.Attribute (.Call (.Name "super" p0) [] [] p1) "__init__" p2) [.Constant (.str lit) j0 p3] [] p4) p5 :: rest) scope f fd) (TC : SupC P K C scope) (S : SupS N ps scope) (hms : mg "super" = none)
    {ar : Arg} (har : (params.posonlyargs ++ params.args).head? = some ar) (hps : ps.head? = some ar.arg)
    (len : ∀ vs H Q E, sp vs H Q E → vs.length = ps.length)
    (hbody : ∀ (cdv : Value) (cc : Addr) (A : Around) (outer : List Env) (s : Shared) (H : Hp) (vs : List V) (Q : VK) (E : XK), Room k (A.deeper (PySem.W.ksEnv qual scope s.heap.objs.size f cdv cc)) → sp vs H Q E →
      (∃ a ws, vs = .ref a :: ws ∧ H a = some (exo a C none)) ∧ ∃ t, PSs (supCx CX P w K mg base N qual scope f cdv cc A outer s H E) rest t ∧ t { nx := fun _ H' => Q .non H', rt := Q } (L2.start N vs) H)
    (hi : ∀ L cd cc, interactive (PySem.W.ksEnv qual scope L f cd cc) = false := by intros; rfl)
    (he : ∀ L cd cc, eval (.Call (.Attribute (.Call (.Name "super" p0) [] [] p1) "__init__" p2) [.Constant (.str lit) j0 p3] [] p4) (PySem.W.ksEnv qual scope L f cd cc) = (do
      let ov ← attributeBase (.Call (.Name "super" p0) [] [] p1) "__init__" (PySem.W.ksEnv qual scope L f cd cc) (eval (.Call (.Name "super" p0) [] [] p1) (PySem.W.ksEnv qual scope L f cd cc))
      standAt p2.atName
      let (fn, first) ← holding [ov] (getMethod ov "__init__" (pl L cd cc))
      callWith p4 fn first (backTo p4 (starEach [.Constant (.str lit) j0 p3] (PySem.W.ksEnv qual scope L f cd cc))) []) := by intros; rfl)
    (hw : ∀ L cd cc, swapsWith (.Call (.Attribute (.Call (.Name "super" p0) [] [] p1) "__init__" p2) [.Constant (.str lit) j0 p3] [] p4) none p5.line (PySem.W.ksEnv qual scope L f cd cc) = pure false := by intros; rfl) :
    FnOk P w K mg base CX (k + 1) f fd ps sp := by
  obtain ⟨oc, od, dV, kV, doc, pm, an, cda, ct, osl, cc, ccl, cdd, vcs, ccs, file, tf, cl, cld, csl, rfl, lk, hcd, lcd, hvs, hfile, lcc⟩ := FF.ex
  refine ⟨len, fun A outer s H args us vs Q E hr e0 hb r hsp => ?_⟩
  have hl := len _ _ _ _ hsp
  have KX : K.In s.heap := e0.mod.kin.keeps fun b o e => (e0.bs b o e).1
  have lim : s.heap.NoLimit := e0.mod.nolimit.keeps fun b o e => (e0.bs b o e).1
  have hloc : ∀ y ∈ ps.zip us, scope.names.lookup y.1 = some .local := fun ⟨n, v⟩ hy => S.loc n (List.of_mem_zip hy).1
  refine ks_codeAny_call_defAt hr.depth (KX _ _ lk) rfl lim (PySem.W.codeRec_of KX hcd) rfl hb S.nocell hloc (fun h₁ hns kp => ?_) S.co S.gen S.kind
  obtain ⟨⟨a, ws, rfl, hHa⟩, t, ht, hq⟩ := hbody (.ref cda) cc A outer s H vs Q E (hr.deeper _) hsp
  have hccb : base.get? cc = some ⟨cl, cld, .cell (some (.ref C)), csl⟩ := e0.mod.kin _ _ lcc
  have I : Inv (supCx CX P w K mg base N qual scope f (.ref cda) cc A outer s H E) [] (L2.start N (.ref a :: ws)) H { s with heap := h₁, toks := s.toks + (ps.zip us).length } := inv_sup S hr.hd e0 hl r hccb rfl hns kp
  obtain ⟨u0, ur, rfl⟩ : ∃ u0 ur, us = u0 :: ur := by
    cases r with
    | cons r1 r2 => exact ⟨_, _, rfl⟩
  obtain rfl : u0 = Value.ref a := by
    cases r with
    | cons r1 r2 => exact r1
  obtain ⟨pr, rfl⟩ : ∃ pr, ps = ar.arg :: pr := by
    cases ps with
    | nil => cases hps
    | cons p pr => exact ⟨pr, by rw [Option.some.inj hps]⟩
  have hself : ((ar.arg :: pr).zip (Value.ref a :: ur)).reverse.lookup ar.arg = some (.ref a) := lookup_rev (S.pre ▸ S.nd) (by rw [← r.length]; exact hl) (i := 0) rfl rfl
  obtain ⟨nm, q, NN, bs, bm, sn, sub, ab, col, dd, k0, k1, k2, k3, k5, hC, hbm⟩ := TC.cls.cls
  have X1 : K.In h₁ := KX.keeps kp
  have hcl : PySem.W.clsIn K C = some { name := nm, bases := bs, mro := .ref C :: bm, ns := NN, qualname := q, hasDict := true, slotNames := sn, subclasses := sub, abstract := ab, collection := col, hasDel := false } := by unfold PySem.W.clsIn; rw [hC] <;> rfl
  obtain ⟨t1, hoa⟩ := exo_at I.hok hHa
  obtain ⟨mb, hblt, hbv⟩ := e0.mod.blt
  have bs1 : ∀ b o, base.get? b = some o → h₁.get? b = some o := fun b o e => kp b o (e0.bs b o e).1
  refine ks_wpAt_execs_cons (ks_wpAt_Expr_any (ks_wpAt_MethodCall ?_ (he _ _ _)) (hi _ _ _) (hw _ _ _))
  refine ks_wpAt_super_base (fd := PySem.W.ksFn name qual params _ scope dV kV doc pm an (.ref cda) ct cc) S.sup S.cls (by decide) rfl (X1 _ _ lk) rfl har rfl (X1 _ _ lcd) rfl hvs hfile TC.top ?_
  refine PySem.W.ks_loadName_global S.kind S.sup (PySem.Calls.loadGlobal_builtin (e0.mod.glob.keeps bs1) hms (hblt.keeps bs1) ((hbv "super" (by decide)).trans (by kernel_rfl)) ⟨rfl, ?_⟩)
  refine wpAny_loadName_free S.kind S.cls rfl ⟨_, X1 _ _ lcc, rfl⟩ ?_
  refine wpAny_loadName_local S.kind (S.loc _ List.mem_cons_self) hns hself ?_
  refine ks_wpAny_isType_cls (X1 _ _ hC) rfl ⟨rfl, ?_⟩
  have IA : PySem.W.InstAt h₁ a (HandSPX.excO C t1) C none := ⟨hoa, rfl, rfl, trivial⟩
  refine ks_wpAny_call_super (X1 _ _ hC) rfl hoa rfl (fun c e => by cases e) (PySem.W.looks_mroIn X1 TC.sub) (fun h2 hso k2 => ?_)
  have I2 := I.kept (t' := s.toks + ((ar.arg :: pr).zip (Value.ref a :: ur)).length) k2
  have X2 : K.In h2 := X1.keeps k2
  have hoa2 := k2 _ _ hoa
  have sup2 : PySem.W.alongIn K "__init__" (((Value.ref C :: bm).dropWhile (· != .ref C)).drop 1) = some (some (.builtin "ValueError.__init__")) := by
    have e := TC.sup
    unfold PySem.W.ks_superIn at e
    rw [hcl] at e
    exact e
  have IA2 : PySem.W.InstAt h2 a (HandSPX.excO C t1) C none := ⟨hoa2, rfl, rfl, trivial⟩
  refine PySem.W.kxs_getMethod PySem.W.kxs_ValueError hso (PySem.W.looks_opaque X2 TC.stat) (l₀ := .ref C :: bm) (fun A Q E s k q => wpAny_bind ((PySem.W.looks_clsIn X2 hcl) A _ E s k (wpAny_pure q))) rfl X2 sup2
    (IA2.type.andThen (PySem.W.looks_subIn X2 TC.subV)) (PySem.W.ks_ne X2 IA2 hcl) (by decide) ?_
  have k3 : ∀ b o, h2.get? b = some o → (h2.push (PySem.W.kxs_mw "ValueError.__init__" a)).get? b = some o := fun b o e => Heap.get?_push_of_some _ e
  have hu : (h2.push (PySem.W.kxs_mw "ValueError.__init__" a)).get? h2.objs.size = some (PySem.W.kxs_mw "ValueError.__init__" a) := Heap.get?_push_size _ rfl
  refine PySem.W.kxs_callWith (i := "ValueError.__init__") (x := a) (by rfl) (Calls.evalArgs_plain (Calls.spliced_cons (Calls.Constant_str (k := j0) (pos := p3) (Calls.spliced_nil ?_))))
  refine ⟨hu, ?_⟩
  refine mw_called (k3 _ _ (X2 _ _ hC)) (k3 _ _ hoa2) hu (by rw [sizeLine_eq]; show 1 ≤ _; omega) (fun h4 t4 k4 hx4 => ?_)
  have I3 := I2.kept (t' := s.toks + ((ar.arg :: pr).zip (Value.ref a :: ur)).length + 1 + 1) k3
  have I4 := I3.write (t' := s.toks + ((ar.arg :: pr).zip (Value.ref a :: ur)).length + 1 + 1) (x := a) (e := a) (o := exo a C none) (by rw [hHa]; exact True.intro) (.inl rfl) k4 ⟨_, hx4⟩ (exo_ok hx4)
  have eu : upd H a (exo a C none) = H := by
    funext b
    by_cases hb : b = a
    · rw [hb, upd_same, hHa]
    · rw [upd_ne hb]
  rw [eu] at I4
  refine wpAt_of_wpAny (wpAny_mono (ht.run [] _ (L2.start N (.ref a :: ws)) H _ I4 hq) (fun fl s' hs => ?_) fun e s' hs => hs)
  have fin : ∀ {σ' : L2.St} {H' : Hp} {v : V} {u : Value}, Inv (supCx CX P w K mg base N qual scope f (.ref cda) cc A outer s H E) [] σ' H' s' → RelV v u → Q v H' → CE outer P w H s Q u s' :=
    fun {σ' H' v u} J rv q => ⟨v, H', J.os, J.bare, J.base, J.hok, rv, q⟩
  cases fl with
  | ret u =>
    obtain ⟨v, σ', H', J, rv, q⟩ := hs
    exact fin J rv q
  | next =>
    obtain ⟨σ', H', J, q⟩ := hs
    exact fin (v := V.non) (u := Value.none) J rfl q
  | brk =>
    obtain ⟨_, _, _, q⟩ := hs
    exact False.elim q
  | cont =>
    obtain ⟨_, _, _, q⟩ := hs
    exact False.elim q
end
end CT
/-! part EXC2 -/
set_option Elab.async false
set_option linter.all false
set_option maxRecDepth 100000
set_option maxHeartbeats 4000000
namespace CT
open PySem PySem.Spec PyProof.Rows L2
/-! ### exceptions with one field -/
/-- the promise of __init__(self, p): super().__init__('..'); self.f = p -/
def spX1 (C : Addr) (f : Str) : Sp := fun vs H Q _ => ∃ (a : Addr) (y : V), vs = [.ref a, y] ∧ H a = some (exo a C none) ∧ ∀ d, H d = none → d ≠ a → Q .non (upd (upd H d (exd d [(f, y)])) a (exo a C (some d)))
section
variable {CX : CXT} {P : Program} {w : World} {K : PySem.W.Frag} {mg : Str → Option Value} {base : Heap}
theorem ok_x1 {pl : Addr → Value → Addr → Sem Bool} {k : Nat} {C f : Addr} {fd : FuncData} {name qual p fl : Str} {params : Arguments} {lit : Str} {j0 : Nat} {p0 p1 p2 p3 p4 p5 q1 q2 q3 q4 : Pos} {scope : Scope}
    (FF : SupFn P K base C name qual params [.Expr (.Call (.Attribute (.Call (.Name "super" p0) [] [] p1) "__init__" p2) [.Constant (.str lit) j0 p3] [] p4) p5, .Assign [.Attribute (.Name "self" q1) fl q2] (.Name p q3) q4] scope f fd)
    (TC : SupC P K C scope) (S : SupS ["self", p] ["self", p] scope) (hms : mg "super" = none) (hno : PySem.W.findIn K (.ref C) fl = some none)
    {ar : Arg} (har : (params.posonlyargs ++ params.args).head? = some ar) (hps : (["self", p] : List Str).head? = some ar.arg) (hpd : (p == ("__debug__" : Str)) = false) (hpc : (p == ("__classdict__" : Str)) = false)
    (hi : ∀ L cd cc, interactive (PySem.W.ksEnv qual scope L f cd cc) = false := by intros; rfl)
    (he : ∀ L cd cc, eval (.Call (.Attribute (.Call (.Name "super" p0) [] [] p1) "__init__" p2) [.Constant (.str lit) j0 p3] [] p4) (PySem.W.ksEnv qual scope L f cd cc) = (do
      let ov ← attributeBase (.Call (.Name "super" p0) [] [] p1) "__init__" (PySem.W.ksEnv qual scope L f cd cc) (eval (.Call (.Name "super" p0) [] [] p1) (PySem.W.ksEnv qual scope L f cd cc))
      standAt p2.atName
      let (fn, first) ← holding [ov] (getMethod ov "__init__" (pl L cd cc))
      callWith p4 fn first (backTo p4 (starEach [.Constant (.str lit) j0 p3] (PySem.W.ksEnv qual scope L f cd cc))) []) := by intros; rfl)
    (hw : ∀ L cd cc, swapsWith (.Call (.Attribute (.Call (.Name "super" p0) [] [] p1) "__init__" p2) [.Constant (.str lit) j0 p3] [] p4) none p5.line (PySem.W.ksEnv qual scope L f cd cc) = pure false := by intros; rfl)
    (hv : ∀ L cd cc, swapsWith (.Name p q3) (some (.Attribute (.Name "self" q1) fl q2)) q4.line (PySem.W.ksEnv qual scope L f cd cc) = pure false := by intros; rfl) : FnOk P w K mg base CX (k + 1) f fd ["self", p] (spX1 C fl) := by
  refine fn_sup FF TC S hms har hps (fun vs H Q E h => ?_) (fun cdv cc A outer s H vs Q E hr h => ?_) hi he hw
  · obtain ⟨a, y, rfl, _⟩ := h
    rfl
  · obtain ⟨a, y, rfl, ha, hq⟩ := h
    refine ⟨⟨a, [y], rfl, ha⟩, ?_⟩
    refine ⟨_, pss_one (ps_ost (pe_var (i := 0) rfl (.inl (S.loc "self" (by simp)))) (pe_var (i := 1) rfl (.inl (S.loc p (by simp))) hpd hpc) (hv _ _ _)), ?_⟩
    exact ⟨y, rfl, .ref a, rfl, a, C, rfl, TC.cls, hno, .inl ⟨ha, fun dx n ne => hq dx n ne⟩⟩
end
/-- an exception class with one field, made by its name -/
structure Xc1 (P : Program) (w : World) (K : PySem.W.Frag) (mg : Str → Option Value) (base : Heap) (x : Str) (C : Addr) (fl : Str) : Prop where
  cls : OexC K C
  xf : XfC K C
  no : PySem.W.findIn K (.ref C) fl = some none
  te : PySem.W.exmOne K (.ref C) (.ref C) = some true
  gx : mg x = some (.ref C)
  ex : ∃ (fI : Addr) (fd : FuncData) (ps : List Str), PySem.W.findIn K (.ref C) "__init__" = some (some (.ref fI)) ∧ PySem.W.typeIn K (.ref fI) = some (.type "function") ∧ FnOk P w K mg base CX0 1 fI fd ps (spX1 C fl) ∧ Binds K fd ps []
/-- C(e) -/
def tMk1 (C : Addr) (fl : Str) (ta : TA) : L2.St → Hp → XK → Prop := fun σ H Q => ta σ H fun vs H1 => ∃ y, vs = [y] ∧ ∀ d, H1 d = none → Q (.ref C) (some d) (upd H1 d (.xd [(fl, y)]))
theorem del_made {H : Hp} {a d : Addr} {u v o x : HO} (na : H a = none) (h : d ≠ a) : upd (del (upd (upd (upd H a o) d u) a v) a) d x = upd H d x := by
  funext b
  by_cases e : b = d
  · rw [e, upd_same, upd_same]
  · rw [upd_ne e, upd_ne e]
    by_cases e2 : b = a
    · rw [e2, del_same, na]
    · rw [del_ne e2, upd_ne e2, upd_ne e, upd_ne e2]
section
variable {X : Cx}
/-- a promise of arguments, weakened behind them -/
theorem pa_up {es : List Expr} {ta : TA} (ha : PA X es ta) : PA X es (fun σ H Q => ∃ Q0 : List V → Hp → Prop, ta σ H Q0 ∧ ∀ vs H1, Q0 vs H1 → Q vs H1) := by
  refine ⟨fun pos pins s σ H Q I h => ?_⟩
  obtain ⟨Q0, h0, hq⟩ := h
  refine wpAny_mono (ha.run pos pins s σ H Q0 I h0) (fun us s1 hu => ?_) fun _ _ x => x
  obtain ⟨vs, H1, I1, r1, q1⟩ := hu
  exact ⟨vs, H1, I1, r1, hq _ _ q1⟩
theorem pe_up {e : Expr} {te : TE} (he : PE X e te) : PE X e (fun σ H Q => ∃ Q0 : VK, te σ H Q0 ∧ ∀ v H1, Q0 v H1 → Q v H1) := by
  refine ⟨fun pins s σ H Q I h => ?_⟩
  obtain ⟨Q0, h0, hq⟩ := h
  refine wpAny_mono (he.run pins s σ H Q0 I h0) (fun us s1 hu => ?_) fun _ _ x => x
  obtain ⟨vs, H1, I1, r1, q1⟩ := hu
  exact ⟨vs, H1, I1, r1, hq _ _ q1⟩
theorem pmk_x1 {x : Str} {C : Addr} {fl : Str} {j : Nat} {e : Expr} {ta : TA} {p pos : Pos} (c : Xc1 X.prog X.w X.K X.mg X.base x C fl) (hr : Room j X.A) (hj : 2 ≤ j) (hg : Gl X x) (ha : PA X [e] ta) (hdb : (x == ("__debug__" : Str)) = false := by decide)
    (he : starEach [e] X.env = (false, eval e X.env) :: starEach [] X.env := by rfl) : PMk X (.Call (.Name x p) [e] [] pos) (tMk1 C fl ta) := by
  obtain ⟨fI, fd, ps, hi, ht, F1, hb⟩ := c.ex
  intro pins s σ H Q I h
  refine pmk_oex (CX := CX0) (sp := spX1 C fl) (ds := []) (dvs := []) c.cls hi ht F1 (hr.mono hj) hb .nil (fun _ _ _ _ _ _ _ h => h.elim) hg c.gx (pa_up ha) hdb he (by rfl) pins s σ H Q I ?_
  refine ⟨_, h, fun vs H1 hv => ?_⟩
  obtain ⟨y, rfl, hq⟩ := hv
  refine ⟨by simp, fun a na => ⟨a, y, rfl, upd_same, fun d nd hda => ⟨rfl, d, [(fl, y)], upd_same, ?_, ?_, ?_⟩⟩⟩
  · rw [upd_ne hda, upd_same]
  · rw [← nd, upd_ne hda]
  · have nd' : H1 d = none := by rw [← nd, upd_ne hda]
    rw [del_made na hda]
    exact hq d nd'
end
/-! ### a caught exception, known behind the suite -/
/-- at a: an exception of the class cls, its dict d -/
def exk (cls : Value) (d : Option Addr) (a : Addr) : HO := .ext fun h => ∃ (o : Obj) (vs : Array Value), h.get? a = some o ∧ Zc cls d o ∧ o.data = .fields vs
theorem exk_ok {P : Program} {w : World} {H : Hp} {h : Heap} {a : Addr} {cls : Value} {d : Option Addr} {o : Obj} {vs : Array Value} (e : h.get? a = some o) (z : Zc cls d o) (dt : o.data = .fields vs) : ObjOk P w H h a (exk cls d a) :=
  ⟨⟨o, vs, e, z, dt⟩, ⟨o, e⟩, fun h1 h2 ⟨o', v', q, r⟩ k => ⟨o', v', k o' q, r⟩⟩
/-- what 'except x as n' wishes: slot i is n's, gone behind the suite; the exception stands in the heap -/
def wKeep (K : PySem.W.Frag) (c : Value) (i n : Nat) (ts : TS) (Wout : WX) (D : Ends) : WX := fun cls d σ H => ∃ b, PySem.W.exmOne K cls c = some b ∧
  (b = true → ∀ a, H a = none → σ.length = n → ts { nx := fun σ1 H1 => D.nx (σ1.set i none) H1, rt := D.rt, bk := fun σ1 H1 => D.bk (σ1.set i none) H1, ct := fun σ1 H1 => D.ct (σ1.set i none) H1 } (σ.set i (some (.ref a))) (upd H a (exk cls d a))) ∧
  (b = false → Wout cls d σ H)
section
variable {X : Cx} {pins : List (Addr × Obj)} {σ : L2.St} {H : Hp} {s : Shared}
theorem inv_toSuite (I : Inv X pins σ H s) (a : Addr) : Inv (X.suite a (X.pn ++ pins)) [] σ H s :=
  ⟨I.ok.suite _ _, I.os, I.bare, I.base, I.loc, I.cell, I.free, I.freeC, fun p hp => I.pin p (by simpa using hp), I.hok, I.len⟩
theorem inv_ofSuite {a : Addr} (I : Inv (X.suite a (X.pn ++ pins)) [] σ H s) (ok : X.Ok) : Inv X pins σ H s :=
  ⟨ok, I.os, I.bare, I.base, I.loc, I.cell, I.free, I.freeC, fun p hp => I.pin p (by simpa using hp), I.hok, I.len⟩
end
section
variable {X : Cx} {x n : Str} {c : Value} {i : Nat} {body suite : List Stmt} {b₀ : Stmt} {np pos pos' : Pos} {tb : WX → TS} {ts : TS} {Wout : WX}
theorem ps_try_keep (hs : X.stack = X.env :: X.outer) (hf : X.env.frame = some X.env.locals) (hN : X.N.Nodup) (hi : X.N[i]? = some n) (hln : X.env.kindOf n = some .local) (hc : Names X x c) (tk : Takes X Wout)
    (hb : ∀ (W : WX) (pn : List (Addr × Obj)) (xe : Value → Shared → Prop), Takes (X.tr pn xe) W → PassesOwn (model X.prog X.w) X.A X.env xe → PSs (X.tr pn xe) body (tb W))
    (hsu : ∀ (a : Addr) (pn : List (Addr × Obj)), PSs (X.suite a pn) (b₀ :: suite) ts) :
    PS X (.Try body [.ExceptHandler (some (.Name x np)) (some n) (b₀ :: suite) pos'] [] [] pos) (fun D σ H => tb (wKeep X.K c i X.N.length ts Wout D) D σ H) := by
  refine ⟨fun pins s σ H D I0 h => ?_⟩
  have okX := I0.ok
  have hframes : X.A.frames = some (X.env :: X.outer) := okX.frames.trans (by rw [hs])
  have hl0 : Loc X.env.scope n := .inl hln
  refine wpAny_Try_except ?_
  have hbody := hb (wKeep X.K c i X.N.length ts Wout D) (X.pn ++ pins) (fun e s₁ => wpAny (model X.prog X.w) X.A (noteFrame e X.env) (fun _ s₂ =>
    wpAny (model X.prog X.w) X.A (setFlight e none) (fun _ s₃ => wpAny (model X.prog X.w) X.A
      (handleBy e X.env [.ExceptHandler (some (.Name x np)) (some n) (b₀ :: suite) pos']) (SP X pins D) X.xe s₃) X.xe s₂) X.xe s₁)
    (fun u s1 hx => ?_) PassesOwn.looking
  · refine wpAny_mono (hbody.run [] s σ H D (I0.toTry _) h) (fun f s1 q => ?_) fun e s1 he => he
    cases f with
    | next =>
      obtain ⟨σ1, H1, J, q⟩ := q
      exact wpAny_execs_nil ⟨σ1, H1, J.ofTry okX, q⟩
    | ret u =>
      obtain ⟨v, σ1, H1, J, r, q⟩ := q
      exact ⟨v, σ1, H1, J.ofTry okX, r, q⟩
    | brk =>
      obtain ⟨σ1, H1, J, q⟩ := q
      exact ⟨σ1, H1, J.ofTry okX, q⟩
    | cont =>
      obtain ⟨σ1, H1, J, q⟩ := q
      exact ⟨σ1, H1, J.ofTry okX, q⟩
  · obtain ⟨a, B, sI, pins1, σ1, H1, cls, d, rfl, JT, ground, ups, sky0, nH, hos, hag, b, hm, yes, no⟩ := hx
    have J : Inv X pins σ1 H1 sI := JT.ofTry okX
    have sky1 : Sky B (X.env :: X.outer) a (Zc cls d) X.env.locals s1.heap := by
      have z : Sky B X.stack a (Zc cls d) X.env.locals s1.heap := sky0
      rw [hs] at z
      exact z
    show wpAny (model X.prog X.w) X.A (noteFrame (.ref a) X.env) _ _ _
    refine Sky.land Zc.steady hframes hf sky1 fun h3 fl3 up3 => ?_
    have I3 : Inv X pins σ1 H1 { s1 with heap := h3 } := J.landed ground fl3.1 (ups.trans up3) hos hag
    obtain ⟨o3, v3, e3, z3, d3⟩ := fl3.there
    have noFrame : ∀ {h' : Heap} {o : Obj} {vs : Array Value}, h'.FunFrames B (X.env :: X.outer) → h'.get? a = some o → o.data = .fields vs → a ∉ frs (X.env :: X.outer) := by
      intro h' o vs ff e dd hm
      obtain ⟨_, o', e', hnf⟩ := ff.mem hm
      rw [e] at e'
      cases e'
      exact hnf _ dd
    have na3 := noFrame fl3.2.2.1 e3 d3
    have aL : a ≠ X.env.locals := fun z => na3 (List.mem_filterMap.mpr ⟨X.env, List.mem_cons_self, by rw [hf, z]⟩)
    have aF : a ∉ X.fs := fun hm => by
      obtain ⟨e, he, q⟩ := List.mem_filterMap.mp hm
      exact na3 (List.mem_filterMap.mpr ⟨e, List.mem_cons_of_mem _ he, q⟩)
    have S3 := I3.suite e3 d3 nH aL aF
    refine wpAny_handleBy_cons (codeAny_handlers_test ?_) (by intro q; cases q)
    have typ : PySem.W.Looks (model X.prog X.w) h3 (typeOf (.ref a)) cls := fun A Q E s k q => wpAny_typeOf_ref (k _ _ e3) (by rw [z3.1]; exact q)
    have mat := PySem.W.exm_one (M := model X.prog X.w) I3.kIn typ hm
    have named : ∀ {Q : Value → Shared → Prop} {E : Value → Shared → Prop}, Q c { s1 with heap := h3 } →
        wpAny (model X.prog X.w) (X.A.mark (some (.ref a))) (eval (.Name x np) X.env) Q E { s1 with heap := h3 } := by
      intro Q E q
      obtain ⟨hg, hdbg, hm | ⟨hm, hv, hnn⟩⟩ := hc
      · exact ld_glob (X := X.suite a ((a, o3) :: (X.pn ++ pins))) S3 hg hm q hdbg
      · exact ld_blt (X := X.suite a ((a, o3) :: (X.pn ++ pins))) S3 hg hm hv q hnn hdbg
    refine named (mat.here ?_)
    cases b with
    | true =>
      refine codeAny_handlers_suite_as ?_
      refine HandSPX.lands_againZ fl3 fun h4 fl4 up4 => ?_
      obtain ⟨o4, v4, e4, z4, d4⟩ := fl4.there
      -- without the exception, then with it
      obtain ⟨G, g1, g2⟩ := restrict h4 fun b => decide (b ≠ a)
      have ga : G.get? a = none := g2 a (by simp)
      have gn : ∀ b, b ≠ a → G.get? b = h4.get? b := fun b hb => g1 b (decide_eq_true hb)
      have Ba : B.get? a = none := fl3.2.1
      have sa : sI.heap.get? a = none := by
        cases e : sI.heap.get? a with
        | none => rfl
        | some o =>
          have z := ground a o e (by rw [show X.stack = _ from hs]; exact na3)
          rw [Ba] at z
          cases z
      have stG : B.StaysIn G := fun b o e => by
        have hb : b ≠ a := fun z => by
          rw [z, Ba] at e
          cases e
        rw [gn b hb]
        exact fl4.1 b o e
      have upG : sI.heap.UpToSlots G := fun b o e hd => by
        have hb : b ≠ a := fun z => by
          rw [z, sa] at e
          cases e
        rw [gn b hb]
        exact ((ups.trans up3).trans up4) b o e hd
      have IG : Inv X pins σ1 H1 { s1 with heap := G } := J.landed (s' := { s1 with heap := G }) ground stG upG hos hag
      have kG : ∀ b o, G.get? b = some o → h4.get? b = some o := fun b o e => by
        have hb : b ≠ a := fun z => by
          rw [z, ga] at e
          cases e
        rw [← gn b hb]
        exact e
      have I4 : Inv X pins σ1 (upd H1 a (exk cls d a)) { s1 with heap := h4 } := IG.laidN (t' := s1.toks) kG ga nH (exk_ok e4 z4 d4)
      refine store_ok (X := X.suite a (X.pn ++ pins)) (v := .ref a) (inv_toSuite I4 a) hN hi hl0 rfl (fun s5 S5 => ?_) (.inr hln)
      refine wpAny_mono ((hsu a (X.pn ++ pins)).run [] s5 _ _ _ S5 (yes rfl a nH J.len)) (fun f s6 q => ?_) (fun _ _ z => False.elim z)
      have leave : ∀ {σ6 : L2.St} {H6 : Hp} {Q : Shared → Prop}, Inv (X.suite a (X.pn ++ pins)) [] σ6 H6 s6 → (∀ s7, Inv X pins (σ6.set i none) H6 s7 → Q s7) →
          wpAny (model X.prog X.w) X.A (do bindName X.env n .none; unbindBehindTheSuite X.env n pos') (fun _ s7 => Q s7) X.xe s6 := by
        intro σ6 H6 Q S6 hq
        exact gone_ok (inv_ofSuite S6 okX) hN hi hln hq
      cases f with
      | ret u =>
        obtain ⟨v6, σ6, H6, S6, r6, q6⟩ := q
        exact leave S6 fun s7 J7 => ⟨_, _, _, J7, r6, q6⟩
      | next =>
        obtain ⟨σ6, H6, S6, q6⟩ := q
        exact leave S6 fun s7 J7 => ⟨_, _, J7, q6⟩
      | brk =>
        obtain ⟨σ6, H6, S6, q6⟩ := q
        exact leave S6 fun s7 J7 => ⟨_, _, J7, q6⟩
      | cont =>
        obtain ⟨σ6, H6, S6, q6⟩ := q
        exact leave S6 fun s7 J7 => ⟨_, _, J7, q6⟩
    | false =>
      show wpAny _ X.A (handleBy (.ref a) X.env []) _ _ _
      refine wpAny_handleBy_nil ?_
      obtain ⟨k1, k2, k3, oe, vs, T, oT, tvs, he, hz, hd, h1, hr⟩ := id fl3
      unfold PySem.passOn
      refine wpAny_bind (wpAny_field he hd h1 ?_)
      have hT : ¬ ((Value.ref T == Value.none) = true) := by simp
      rw [if_neg hT]
      have out : wpAny (model X.prog X.w) X.A (setFlight (.ref a) X.env.frame) (fun _ s4 =>
          wpAny (model X.prog X.w) X.A (throw (.ref a) : Sem Flow) (SP X pins D) X.xe s4) X.xe { s1 with heap := h3 } := by
        rw [hf]
        refine HandSPX.setFlight_upZ fl3 fun h4 hh4 up4 => wpAny_throw (tk _ _ ?_)
        refine ⟨a, B, sI, pins, σ1, H1, cls, d, rfl, J, ground, (ups.trans up3).trans up4, .inr (.inr ?_), nH, hos, hag, no rfl⟩
        rw [show X.stack = _ from hs]
        exact hh4
      first
        | exact wpAny_bind (wpAny_pure (wpAny_bind out))
        | exact wpAny_bind out
end
/-- e.f, e an exception known in the heap -/
def tXk (K : PySem.W.Frag) (f : Str) (te : TE) : TE := fun σ H Q => te σ H fun x H1 => ∃ (a C dd : Addr) (fs : List (Str × V)) (v : V), x = .ref a ∧ XfC K C ∧ PySem.W.findIn K (.ref C) f = some none ∧ H1 a = some (exk (.ref C) (some dd) a) ∧
  H1 dd = some (.xd fs) ∧ fs.lookup f = some v ∧ Q v H1
theorem pe_xk {X : Cx} {e : Expr} {te : TE} {pos : Pos} {n : Str} (he : PE X e te) (hb : attributeBase e n X.env (eval e X.env) = eval e X.env := by rfl) : PE X (.Attribute e n pos) (tXk X.K n te) := by
  refine ⟨fun pins s σ H Q I h => ?_⟩
  refine attr_of hb (thn (he.run pins s σ H _ I h) fun u s1 hu => ?_)
  obtain ⟨x, H1, I1, rx, a, C, dd, fs, v, rfl, T, no, ea, ed, l, q⟩ := hu
  obtain rfl : u = Value.ref a := rx
  obtain ⟨⟨o, vs, ho, hz, hd⟩, _, _⟩ := I1.hok a _ ea
  have hx : ObjOk X.prog X.w H1 s1.heap dd (.xd fs) := I1.hok dd _ ed
  obtain ⟨m, hns, hr⟩ := hx
  obtain ⟨od, hod, hl⟩ := lookIn_ns hns
  obtain ⟨w', hw', rw'⟩ := RelO.some_of (v := v) (o := m n) (by rw [← l]; exact hr n)
  have hin : PySem.W.InstAt s1.heap a o C (some od) := ⟨ho, hz.1, by unfold PySem.W.notCls; rw [hd] <;> rfl, by rw [hz.2]; exact hod⟩
  refine HandSPX.exc_get I1.kIn hin T.ga T.gg T.exC (PySem.W.findObj_own T.hdC no rfl (by rw [hl, hw'])) (handed_of rw') ?_
  exact ⟨v, H1, I1.tok _, rw', q⟩
end CT
/-! part TK -/
set_option Elab.async false
set_option linter.all false
set_option maxRecDepth 100000
set_option maxHeartbeats 4000000
namespace CT
open PySem PySem.Spec PyProof.Rows L2
local macro_rules | `(tactic| walk_at "rd") => `(tactic| (try simp only [tSeq, tAsg, tOp, rI0, rI, tC, tVar, gName, tRet, tRetN, tIfS, tIf, tTest, tB, tAnd, tOr, tNot, tAndV, tOrV, tNotV, tCons, tNil, tCall, tCB, tDrop, tNext, rEq, rNe, L2.start, List.length_cons, List.length_nil, List.map_cons, List.map_nil, List.cons_append, List.nil_append, List.append_nil, List.append_eq, List.replicate, List.set_cons_zero, List.set_cons_succ, List.getElem?_cons_zero, List.getElem?_cons_succ, Option.some.injEq, V.int.injEq, V.str.injEq, V.ref.injEq, V.bl.injEq, exists_eq_left', exists_eq_left, exists_and_left, exists_and_right, exists_eq', exists_eq, Nat.reduceSub, Nat.reduceAdd, true_and, and_true, CMul, CDiv, CDivN, cxOf, Cx.nox, Cx.wish, iRng1, iRng2, iEnum, iList, iTup, gTup, gCons, gNil, gSub, rSetL, rIxL, rIxT, wipe, tYes, ↓reduceIte, if_true, tDGet, rNeD, rEqD, tLst, tTup, sDPut, StX.tMakeR, tMakeS, tProp, tMeth, ClX.tCVal, tFld, sFld, tNever, rIsi, tLc, tFor, tMk1, rCmp, rIn, rItem, tMakeK, tXk]))
/-! the values of every kind: what isinstance says -/
/-- which values are whole numbers -/
def isW : V → Bool
  | .int _ => true
  | _ => false
/-- a value of which the two questions of is_whole are answered so -/
def Kn (K : PySem.W.Frag) (H : Hp) (v : V) : Prop := ∃ (t : Value) (b1 b2 : Bool), TyX K H v t ∧ PySem.W.kitOne K t (.type "int") = some b1 ∧ PySem.W.kitOne K t (.type "bool") = some b2 ∧ (b1 && !b2) = isW v
theorem kn_int {K : PySem.W.Frag} {H : Hp} (i : Int) : Kn K H (.int i) := ⟨_, true, false, .base (.int i), kit_ty (by decide +kernel), kit_ty (by decide +kernel), rfl⟩
theorem kn_bl {K : PySem.W.Frag} {H : Hp} (b : Bool) : Kn K H (.bl b) := ⟨_, true, true, .base (.bl b), kit_ty (by decide +kernel), kit_ty (by decide +kernel), rfl⟩
theorem kn_non {K : PySem.W.Frag} {H : Hp} : Kn K H .non := ⟨_, false, false, .base .non, kit_ty (by decide +kernel), kit_ty (by decide +kernel), rfl⟩
theorem kn_str {K : PySem.W.Frag} {H : Hp} (x : Str) : Kn K H (.str x) := ⟨_, false, false, .base (.str x), kit_ty (by decide +kernel), kit_ty (by decide +kernel), rfl⟩
theorem kn_lst {K : PySem.W.Frag} {H : Hp} {a : Addr} {xs : List V} (e : H a = some (.lst xs)) : Kn K H (.ref a) := ⟨_, false, false, .base (.lst e), kit_ty (by decide +kernel), kit_ty (by decide +kernel), rfl⟩
theorem kn_tup {K : PySem.W.Frag} {H : Hp} {a : Addr} {xs : List V} (e : H a = some (.tup xs)) : Kn K H (.ref a) := ⟨_, false, false, .base (.tup e), kit_ty (by decide +kernel), kit_ty (by decide +kernel), rfl⟩
theorem kn_dK {K : PySem.W.Frag} {H : Hp} {a : Addr} {kvs : List (Key × V)} (e : H a = some (.dK kvs)) : Kn K H (.ref a) := ⟨_, false, false, .base (.dK e), kit_ty (by decide +kernel), kit_ty (by decide +kernel), rfl⟩
/-- the names of the text that the walk leans on -/
structure Tx (K : PySem.W.Frag) (mg : Str → Option Value) (cT : Addr) : Prop extends Bl mg where
  isinstance : mg "isinstance" = none
  b_int : mg "int" = none
  b_bool : mg "bool" = none
  mg_Ticket : mg "Ticket" = some (.ref cT)
  clT : Cls K cT
  nTx : NoAttr K cT "_x"
  nTy : NoAttr K cT "_y"
  pyT : PySem.W.findIn K (.ref cT) "__class__" = some (some (.builtin "object.__class__"))
  spO : PySem.W.specialIn K (.builtin "object.__class__") "__get__" = some (some (.builtin "getset_descriptor.__get__"))
  tkO : PySem.W.takesIn K (.builtin "object.__class__") = some true
  mroT : PySem.W.mroIn K cT (.type "object") = some true
  kitT : PySem.W.kitOne K (.ref cT) (.ref cT) = some true
  noNe : NoNe K cT
  maxT : ∃ mc u, ClX.CRead K cT mc ∧ ClX.CVal K cT mc "MAX_HEIGHT" (.int 30) u
theorem tk_ty {K : PySem.W.Frag} {mg : Str → Option Value} {cT : Addr} (T : Tx K mg cT) {H : Hp} {p dx : Addr} {fs : List (Str × V)} (e : H p = some (.ins cT dx fs)) : TyX K H (.ref p) (.ref cT) := .base (.ins e T.clT T.pyT T.spO T.tkO T.mroT)
section
variable {P : Program} {w : World} {K : PySem.W.Frag} {mg : Str → Option Value} {base : Heap} {cT cIT cIN : Addr}
abbrev s_is_whole : Stmt := topS 1
theorem sc_is_whole : FnScope ["value"] ["value"] (defScope s_is_whole) := ⟨rfl, rfl, rfl, by decide +kernel, rfl, by decide +kernel, by decide +kernel⟩
def spWhole (K : PySem.W.Frag) : Sp := fun vs H Q _ => ∃ v : V, vs = [v] ∧ Kn K H v ∧ Q (.bl (isW v)) H
theorem ok_whole {f : Addr} {fd : FuncData} {k : Nat} (F : Fun K "is_whole" "is_whole" s_is_whole f fd) (T : Tx K mg cT) : FnOk P w K mg base CX0 (k + 1) f fd ["value"] (spWhole K) := by
  refine F.ok sc_is_whole (fun vs H Q E h => ?_) (fun cdv A outer s H vs Q E hr h => ?_)
  · obtain ⟨v, rfl, _⟩ := h
    rfl
  · obtain ⟨v, rfl, ⟨t, b1, b2, ty, e1, e2, eb⟩, q⟩ := h
    refine ⟨_, (pss_one (ps_ret (pe_and (pe_callB call_isi (by rfl) T.isinstance (by decide +kernel) (pa_cons (pv 0) (pa_cons (pe_bltn (v := .ty "int") (by rfl) T.b_int (by decide +kernel) rfl) pa_nil))) (pe_one (pe_not (pe_callB call_isi (by rfl) T.isinstance (by decide +kernel) (pa_cons (pv 0) (pa_cons (pe_bltn (v := .ty "bool") (by rfl) T.b_bool (by decide +kernel) rfl) pa_nil)))))))), ?_⟩
    walk_at "rd"
    refine ⟨_, _, rfl, _, _, .ty "int", ty, _, e1, ?_⟩
    refine ite2 (fun hb => ⟨_, _, rfl, _, _, .ty "bool", ty, _, e2, ?_⟩) (fun hb => ?_)
    · subst hb
      rw [Bool.true_and] at eb
      rw [eb]
      exact q
    · have : b1 = false := by simpa using hb
      subst this
      rw [Bool.false_and] at eb
      rw [eb]
      exact q
abbrev s_is_position : Stmt := topS 2
theorem sc_is_position : FnScope ["value", "many"] ["value", "many"] (defScope s_is_position) := ⟨rfl, rfl, rfl, by decide +kernel, rfl, by decide +kernel, by decide +kernel⟩
/-- which values are whole numbers from 0 to m - 1 -/
def isP (m : Int) : V → Bool
  | .int i => decide (0 ≤ i) && decide (i < m)
  | _ => false
def spPos (K : PySem.W.Frag) : Sp := fun vs H Q _ => ∃ (v : V) (m : Int), vs = [v, .int m] ∧ Kn K H v ∧ Q (.bl (isP m v)) H
theorem ok_pos {f : Addr} {fd : FuncData} (F : Fun K "is_position" "is_position" s_is_position f fd) (c_is_whole : Cl P w K mg base 1 "is_whole" (spWhole K)) : FnOk P w K mg base CX0 2 f fd ["value", "many"] (spPos K) := by
  refine F.ok sc_is_position (fun vs H Q E h => ?_) (fun cdv A outer s H vs Q E hr h => ?_)
  · obtain ⟨v, m, rfl, _⟩ := h
    rfl
  · obtain ⟨v, m, rfl, kn, q⟩ := h
    refine ⟨_, (pss_one (ps_ret (pe_and (pe_cl c_is_whole hr (by decide) (by rfl) (pa_cons (pv 0) pa_nil)) (pe_one (pe_chain op_le op_lt pe_int (pv 0) (pv 1)))))), ?_⟩
    walk_at "rd"
    refine ⟨v, rfl, kn, _, rfl, ?_⟩
    cases v with
    | int i =>
      refine iteT ?_
      simp only [tChain, tC, tVar, rI0, List.getElem?_cons_zero, List.getElem?_cons_succ, Option.some.injEq, exists_eq_left', V.int.injEq, exists_and_left]
      refine ⟨_, rfl, ?_⟩
      by_cases h0 : 0 ≤ i
      · rw [if_pos (decide_eq_true h0)]
        have : isP m (V.int i) = decide (i < m) := by
          show (decide (0 ≤ i) && decide (i < m)) = decide (i < m)
          rw [decide_eq_true h0, Bool.true_and]
        rw [← this]
        exact q
      · rw [if_neg (fun z => h0 (of_decide_eq_true z))]
        have : isP m (V.int i) = false := by
          show (decide (0 ≤ i) && decide (i < m)) = false
          rw [decide_eq_false h0, Bool.false_and]
        rw [← this]
        exact q
    | non => exact iteF q
    | bl _ => exact iteF q
    | str _ => exact iteF q
    | byt _ => exact iteF q
    | flt _ => exact iteF q
    | ref _ => exact iteF q
    | ty _ => exact iteF q
abbrev s_is_height : Stmt := topS 9
theorem sc_is_height : FnScope ["value"] ["value"] (defScope s_is_height) := ⟨rfl, rfl, rfl, by decide +kernel, rfl, by decide +kernel, by decide +kernel⟩
def spHeight (K : PySem.W.Frag) : Sp := fun vs H Q _ => ∃ v : V, vs = [v] ∧ Kn K H v ∧ Q (.bl (isP 31 v)) H
theorem ok_height {f : Addr} {fd : FuncData} (F : Fun K "is_height" "is_height" s_is_height f fd) (T : Tx K mg cT) (c_is_position : Cl P w K mg base 2 "is_position" (spPos K)) : FnOk P w K mg base CX0 3 f fd ["value"] (spHeight K) := by
  refine F.ok sc_is_height (fun vs H Q E h => ?_) (fun cdv A outer s H vs Q E hr h => ?_)
  · obtain ⟨v, rfl, _⟩ := h
    rfl
  · obtain ⟨v, rfl, kn, q⟩ := h
    refine ⟨_, (pss_one (ps_ret (pe_cl c_is_position hr (by decide) (by rfl) (pa_cons (pv 0) (pa_cons (pe_op op_add (ClX.pe_cval (pe_glob (v := .ref cT) (by rfl) T.mg_Ticket rfl)) pe_int) pa_nil))))), ?_⟩
    walk_at "rd"
    obtain ⟨mc, u, cr, cv⟩ := T.maxT
    exact ⟨mc, cr, _, ⟨u, cv⟩, 30, rfl, v, 31, rfl, kn, q⟩
/-! ### Ticket -/
theorem kxy : ¬ (("_x" : Str) = "_y") := by decide +kernel
/-- the attributes of a ticket -/
def tf (x y : Int) : List (Str × V) := putF "_y" (.int y) (putF "_x" (.int x) [])
theorem tf_x (x y : Int) : (tf x y).lookup ("_x" : Str) = some (.int x) := by
  unfold tf
  rw [lookup_putF, if_neg kxy, lookup_putF, if_pos rfl]
theorem tf_y (x y : Int) : (tf x y).lookup ("_y" : Str) = some (.int y) := by
  unfold tf
  rw [lookup_putF, if_pos rfl]
theorem tf_no (x y : Int) {m : Str} (h1 : ¬ m = "_x") (h2 : ¬ m = "_y") : (tf x y).lookup m = none := by
  unfold tf
  rw [lookup_putF, if_neg h2, lookup_putF, if_neg h1]
  rfl
/-- a ticket from x to y stands at p -/
def TkAt (cT : Addr) (H : Hp) (p : Addr) (x y : Int) : Prop := ∃ dx, H p = some (.ins cT dx (tf x y))
theorem TkAt.same {cT p : Addr} {H H' : Hp} {x y : Int} (h : TkAt cT H p x y) (s : Same H H') : TkAt cT H' p x y := let ⟨dx, e⟩ := h; ⟨dx, s _ _ e⟩
def isH (x : Int) : Prop := 0 ≤ x ∧ x ≤ 30
theorem isP_of {x : Int} (h : isH x) : isP 31 (.int x) = true := by
  show (decide (0 ≤ x) && decide (x < 31)) = true
  rw [decide_eq_true h.1, decide_eq_true (show x < 31 by have := h.2; omega)]
  rfl
abbrev s_Ticket___init : Stmt := inClass (topS 8) 1
theorem sc_Ticket___init : FnScope ["self", "x", "y"] ["self", "x", "y"] (defScope s_Ticket___init) := ⟨rfl, rfl, rfl, by decide +kernel, rfl, by decide +kernel, by decide +kernel⟩
def spTkInit (cT : Addr) : Sp := fun vs H Q _ => ∃ (p dx : Addr) (x y : Int), vs = [.ref p, .int x, .int y] ∧ H p = some (.ins cT dx []) ∧ isH x ∧ isH y ∧ Q .non (upd H p (.ins cT dx (tf x y)))
theorem ok_tkinit {f : Addr} {fd : FuncData} (F : Fun K "__init__" "Ticket.__init__" s_Ticket___init f fd) (T : Tx K mg cT) (c_is_height : Cl P w K mg base 3 "is_height" (spHeight K)) : FnOk P w K mg base CX0 4 f fd ["self", "x", "y"] (spTkInit cT) := by
  refine F.ok sc_Ticket___init (fun vs H Q E h => ?_) (fun cdv A outer s H vs Q E hr h => ?_)
  · obtain ⟨p, dx, x, y, rfl, _⟩ := h
    rfl
  · obtain ⟨p, dx, x, y, rfl, hp, hx, hy, q⟩ := h
    refine ⟨_, (pss_cons (ps_if (pt_not (pt_val (pe_cl c_is_height hr (by decide) (by rfl) (pa_cons (pv 1) pa_nil)))) pss_never pss_nil)
      (pss_cons (ps_if (pt_not (pt_val (pe_cl c_is_height hr (by decide) (by rfl) (pa_cons (pv 2) pa_nil)))) pss_never pss_nil)
      (pss_cons (ps_fld (pv 0) (pv 1) rfl)
      (pss_one (ps_fld (pv 0) (pv 2) rfl))))), ?_⟩
    walk_at "rd"
    refine ⟨_, rfl, kn_int x, true, congrArg V.bl (isP_of hx), iteF ?_⟩
    refine ⟨_, rfl, kn_int y, true, congrArg V.bl (isP_of hy), iteF ?_⟩
    refine ⟨_, _, _, hp, T.clT, T.nTx, by show 0 < 1000; decide, _, _, _, upd_same, T.clT, T.nTy, by show 1 < 1000; decide, ?_⟩
    rw [upd_upd]
    exact q
/-- Ticket(x, y) -/
theorem tk_made {H : Hp} {p dx : Addr} {x y : Int} (np : H p = none) (nd : H dx = none) (ne : dx ≠ p) :
    Same H (upd (upd (upd H dx (.own p)) p (.ins cT dx [])) p (.ins cT dx (tf x y))) ∧ TkAt cT (upd (upd (upd H dx (.own p)) p (.ins cT dx [])) p (.ins cT dx (tf x y))) p x y :=
  ⟨fun b o e => by rw [upd_upd, upd_ne (ne_of_none e np), upd_ne (ne_of_none e nd)]; exact e, dx, upd_same⟩
/-! the properties x, y; turned; == -/
abbrev s_Ticket_x : Stmt := inClass (topS 8) 2
theorem sc_Ticket_x : FnScope ["self"] ["self"] (defScope s_Ticket_x) := ⟨rfl, rfl, rfl, by decide +kernel, rfl, by decide +kernel, by decide +kernel⟩
abbrev s_Ticket_y : Stmt := inClass (topS 8) 3
theorem sc_Ticket_y : FnScope ["self"] ["self"] (defScope s_Ticket_y) := ⟨rfl, rfl, rfl, by decide +kernel, rfl, by decide +kernel, by decide +kernel⟩
def spTkX (cT : Addr) : Sp := fun vs H Q _ => ∃ (p : Addr) (x y : Int), vs = [.ref p] ∧ TkAt cT H p x y ∧ Q (.int x) H
def spTkY (cT : Addr) : Sp := fun vs H Q _ => ∃ (p : Addr) (x y : Int), vs = [.ref p] ∧ TkAt cT H p x y ∧ Q (.int y) H
theorem ok_tkx {f : Addr} {fd : FuncData} (F : Fun K "x" "Ticket.x" s_Ticket_x f fd) (T : Tx K mg cT) : FnOk P w K mg base CX0 1 f fd ["self"] (spTkX cT) := by
  refine F.ok sc_Ticket_x (fun vs H Q E h => ?_) (fun cdv A outer s H vs Q E hr h => ?_)
  · obtain ⟨p, x, y, rfl, _⟩ := h
    rfl
  · obtain ⟨p, x, y, rfl, ⟨dx, e⟩, q⟩ := h
    refine ⟨_, (pss_one (ps_ret (pe_fld (pv 0) rfl))), ?_⟩
    walk_at "rd"
    exact ⟨_, _, _, e, T.clT, T.nTx, _, tf_x x y, q⟩
theorem ok_tky {f : Addr} {fd : FuncData} (F : Fun K "y" "Ticket.y" s_Ticket_y f fd) (T : Tx K mg cT) : FnOk P w K mg base CX0 1 f fd ["self"] (spTkY cT) := by
  refine F.ok sc_Ticket_y (fun vs H Q E h => ?_) (fun cdv A outer s H vs Q E hr h => ?_)
  · obtain ⟨p, x, y, rfl, _⟩ := h
    rfl
  · obtain ⟨p, x, y, rfl, ⟨dx, e⟩, q⟩ := h
    refine ⟨_, (pss_one (ps_ret (pe_fld (pv 0) rfl))), ?_⟩
    walk_at "rd"
    exact ⟨_, _, _, e, T.clT, T.nTy, _, tf_y x y, q⟩
abbrev s_Ticket_turned : Stmt := inClass (topS 8) 11
theorem sc_Ticket_turned : FnScope ["self"] ["self"] (defScope s_Ticket_turned) := ⟨rfl, rfl, rfl, by decide +kernel, rfl, by decide +kernel, by decide +kernel⟩
def spTkTurned (cT : Addr) : Sp := fun vs H Q _ => ∃ (p : Addr) (x y : Int), vs = [.ref p] ∧ TkAt cT H p x y ∧ isH x ∧ isH y ∧ ∀ (H' : Hp) (p' : Addr), Same H H' → H p' = none → TkAt cT H' p' (30 - y) (30 - x) → Q (.ref p') H'
theorem ok_tkturned {f : Addr} {fd : FuncData} (F : Fun K "turned" "Ticket.turned" s_Ticket_turned f fd) (T : Tx K mg cT) (mk_Ticket : Mk1 CX0 P w K mg base 4 "Ticket" cT (spTkInit cT)) : FnOk P w K mg base CX0 6 f fd ["self"] (spTkTurned cT) := by
  refine F.ok sc_Ticket_turned (fun vs H Q E h => ?_) (fun cdv A outer s H vs Q E hr h => ?_)
  · obtain ⟨p, x, y, rfl, _⟩ := h
    rfl
  · obtain ⟨p, x, y, rfl, ⟨dx, e⟩, hx, hy, q⟩ := h
    refine ⟨_, (pss_one (ps_ret (pe_mkR mk_Ticket hr (by decide) (by rfl) pass0 (pa_cons (pe_op op_sub (ClX.pe_cval (pe_glob (v := .ref cT) (by rfl) T.mg_Ticket rfl)) (pe_fld (pv 0) rfl)) (pa_cons (pe_op op_sub (ClX.pe_cval (pe_glob (v := .ref cT) (by rfl) T.mg_Ticket rfl)) (pe_fld (pv 0) rfl)) pa_nil))))), ?_⟩
    walk_at "rd"
    obtain ⟨mc, u, cr, cv⟩ := T.maxT
    have hx' := hx
    have hy' := hy
    unfold isH at hx' hy'
    refine ⟨mc, cr, _, ⟨u, cv⟩, _, _, _, e, T.clT, T.nTy, _, tf_y x y, 30, rfl, _, rfl, mc, cr, _, ⟨u, cv⟩, _, _, _, e, T.clT, T.nTx, _, tf_x x y, 30, rfl, _, rfl, fun p' dx' np nd ne => ?_⟩
    refine ⟨p', dx', _, _, rfl, upd_same, ⟨by omega, by omega⟩, ⟨by omega, by omega⟩, rfl, ?_⟩
    have M := tk_made (cT := cT) (x := 30 - y) (y := 30 - x) np nd ne
    exact q _ p' M.1 np M.2
abbrev s_Ticket___eq : Stmt := inClass (topS 8) 6
theorem sc_Ticket___eq : FnScope ["self", "other"] ["self", "other"] (defScope s_Ticket___eq) := ⟨rfl, rfl, rfl, by decide +kernel, rfl, by decide +kernel, by decide +kernel⟩
/-- two tickets are compared by their heights -/
def spTkEq (cT : Addr) : Sp := fun vs H Q _ => ∃ (p q : Addr) (x y u v : Int), vs = [.ref p, .ref q] ∧ TkAt cT H p x y ∧ TkAt cT H q u v ∧ Q (.bl (decide (x = u) && decide (y = v))) H
theorem ok_tkeq {f : Addr} {fd : FuncData} (F : Fun K "__eq__" "Ticket.__eq__" s_Ticket___eq f fd) (T : Tx K mg cT) : FnOk P w K mg base CX0 1 f fd ["self", "other"] (spTkEq cT) := by
  refine F.ok sc_Ticket___eq (fun vs H Q E h => ?_) (fun cdv A outer s H vs Q E hr h => ?_)
  · obtain ⟨p, q, x, y, u, v, rfl, _⟩ := h
    rfl
  · obtain ⟨p, q, x, y, u, v, rfl, ⟨dx, e⟩, ⟨dy, e2⟩, k⟩ := h
    refine ⟨_, (pss_one (ps_ret (pe_and (pe_callB call_isi (by rfl) T.isinstance (by decide +kernel) (pa_cons (pv 1) (pa_cons (pe_glob (v := .ref cT) (by rfl) T.mg_Ticket rfl) pa_nil))) (pe_and (pe_cmpR op_eq (pe_fld (pv 0) rfl) (pe_fld (pv 1) rfl) (nomark _)) (pe_one (pe_cmpR op_eq (pe_fld (pv 0) rfl) (pe_fld (pv 1) rfl) (nomark _))))))), ?_⟩
    walk_at "rd"
    refine ⟨_, _, rfl, _, _, .own cT, tk_ty T e2, true, T.kitT, iteT ?_⟩
    refine ⟨_, _, _, e, T.clT, T.nTx, _, tf_x x y, _, _, _, e2, T.clT, T.nTx, _, tf_x u v, rfl, ?_⟩
    have ev : ∀ a b : Int, decide (V.int a = V.int b) = decide (a = b) := fun a b => by
      by_cases e : a = b
      · rw [e, decide_eq_true rfl, decide_eq_true rfl]
      · rw [decide_eq_false e, decide_eq_false (fun z => e (V.int.inj z))]
    rw [ev]
    refine ite2 (fun hb => ⟨_, _, _, e, T.clT, T.nTy, _, tf_y x y, _, _, _, e2, T.clT, T.nTy, _, tf_y u v, rfl, ?_⟩) (fun hb => ?_)
    · rw [ev]
      rw [hb, Bool.true_and] at k
      exact k
    · have : decide (x = u) = false := by simpa using hb
      rw [this, Bool.false_and] at k
      exact k
end
end CT
/-! part TK2 -/
set_option Elab.async false
set_option linter.all false
set_option maxRecDepth 100000
set_option maxHeartbeats 4000000
namespace CT
open PySem PySem.Spec PyProof.Rows L2
local macro_rules | `(tactic| walk_at "rd") => `(tactic| (try simp only [tSeq, tAsg, tOp, rI0, rI, tC, tVar, gName, tRet, tRetN, tIfS, tIf, tTest, tB, tAnd, tOr, tNot, tAndV, tOrV, tNotV, tCons, tNil, tCall, tCB, tDrop, tNext, rEq, rNe, L2.start, List.length_cons, List.length_nil, List.map_cons, List.map_nil, List.cons_append, List.nil_append, List.append_nil, List.append_eq, List.replicate, List.set_cons_zero, List.set_cons_succ, List.getElem?_cons_zero, List.getElem?_cons_succ, Option.some.injEq, V.int.injEq, V.str.injEq, V.ref.injEq, V.bl.injEq, exists_eq_left', exists_eq_left, exists_and_left, exists_and_right, exists_eq', exists_eq, Nat.reduceSub, Nat.reduceAdd, true_and, and_true, CMul, CDiv, CDivN, cxOf, Cx.nox, Cx.wish, iRng1, iRng2, iEnum, iList, iTup, gTup, gCons, gNil, gSub, rSetL, rIxL, rIxT, wipe, tYes, ↓reduceIte, if_true, tDGet, rNeD, rEqD, tLst, tTup, sDPut, StX.tMakeR, tMakeS, tProp, tMeth, ClX.tCVal, tFld, sFld, tNever, rIsi, tLc, tFor, tMk1, rCmp, rIn, rItem, tMakeK, tXk]))
/-! pairs of whole numbers, < -/
def rLtP (K : PySem.W.Frag) : R2 := fun x y H Q => ∃ (a b : Addr) (p q u v : Int), x = .ref a ∧ y = .ref b ∧ SqT K H a [.int p, .int q] ∧ SqT K H b [.int u, .int v] ∧ Q (.bl (if p = u then decide (q < v) else decide (p < u))) H
theorem op_ltP {X : Cx} (hu : X.A.units + 1 < cLine) : OpR X (compareOp .Lt) (rLtP X.K) := by
  intro pins s σ H x y v u Q I rx ry h
  obtain ⟨a, b, n1, n2, m1, m2, rfl, rfl, ha, hb, q⟩ := h
  cases rx
  cases ry
  obtain ⟨its, r1, p1, _⟩ := I.tuple ha
  obtain ⟨its2, r2, p2, _⟩ := I.tuple hb
  have i1 : IntsAre its [n1, n2] := Vals.ints (ns := [n1, n2]) r1
  have i2 : IntsAre its2 [m1, m2] := Vals.ints (ns := [m1, m2]) r2
  have e1 : its.toArray.size = 2 := by rw [List.size_toArray]; exact i1.length
  have e2 : its2.toArray.size = 2 := by rw [List.size_toArray]; exact i2.length
  have at1 : ∀ j (h1 : j < its.toArray.size), ∃ t, its.toArray[j] = .int (([n1, n2] : List Int).getD j 0) t := fun j h1 => PyProof.Rows.IntsAre.int_at i1 _ _ (by simp at h1; simp [h1])
  have at2 : ∀ j (h1 : j < its2.toArray.size), ∃ t, its2.toArray[j] = .int (([m1, m2] : List Int).getD j 0) t := fun j h1 => PyProof.Rows.IntsAre.int_at i2 _ _ (by simp at h1; simp [h1])
  have R := Ob.RcOp.tuples_lt (A := X.A) (s := s) (e := fun j => decide (([n1, n2] : List Int).getD j 0 = ([m1, m2] : List Int).getD j 0)) (r := fun j => decide (([n1, n2] : List Int).getD j 0 < ([m1, m2] : List Int).getD j 0)) p1 p2 (by omega)
    (fun j h1 h2 => by
      obtain ⟨t, et⟩ := at1 j h1
      obtain ⟨t', et'⟩ := at2 j h2
      rw [et, et', ← Bool.beq_eq_decide_eq]
      exact SeqAt.EqAt.int_int _ _ _ _)
    (fun j h1 h2 _ => by
      obtain ⟨t, et⟩ := at1 j h1
      obtain ⟨t', et'⟩ := at2 j h2
      rw [et, et']
      exact Ob.RcOp.lt_int _ _ _ _)
  rw [e1, e2] at R
  have ev : Ob.lexAt (fun j => decide (([n1, n2] : List Int).getD j 0 = ([m1, m2] : List Int).getD j 0)) (fun j => decide (([n1, n2] : List Int).getD j 0 < ([m1, m2] : List Int).getD j 0)) (decide (2 < 2)) 0 (min 2 2) = (if n1 = m1 then decide (n2 < m2) else decide (n1 < m1)) := by
    show (if decide (n1 = m1) = true then (if decide (n2 = m2) = true then decide (2 < 2) else decide (n2 < m2)) else decide (n1 < m1)) = _
    by_cases h1 : n1 = m1
    · by_cases h2 : n2 = m2
      · subst h1 h2
        simp
      · simp [h1, h2]
    · simp [h1]
  rw [ev] at R
  exact R X.prog X.w X.xe (EP X pins σ Q) ⟨.bl _, H, I, rfl, q⟩
/-- a <= b <= c of whole numbers -/
theorem ch_le {ta tb tc : TE} {σ : L2.St} {H : Hp} {Q : VK} {a b c : Int} (h1 : ∀ Q' : VK, Q' (.int a) H → ta σ H Q') (h2 : ∀ Q' : VK, Q' (.int b) H → tb σ H Q') (h3 : ∀ Q' : VK, Q' (.int c) H → tc σ H Q') (q : Q (.bl (decide (a ≤ b) && decide (b ≤ c))) H) :
    tChain (rI0 fun i j => V.bl (decide (i ≤ j))) (rI0 fun i j => V.bl (decide (i ≤ j))) ta tb tc σ H Q := by
  unfold tChain
  refine h1 _ (h2 _ ⟨_, _, rfl, rfl, _, rfl, ?_⟩)
  by_cases h : a ≤ b
  · rw [decide_eq_true h] at q ⊢
    refine iteT (h3 _ ⟨_, _, rfl, rfl, ?_⟩)
    rw [Bool.true_and] at q
    exact q
  · rw [decide_eq_false h] at q ⊢
    rw [Bool.false_and] at q
    exact iteF q
section
variable {P : Program} {w : World} {K : PySem.W.Frag} {mg : Str → Option Value} {base : Heap} {cT cIT cIN : Addr}
/-! Ticket, whatever is passed -/
/-- the ways out of Ticket(x, y) -/
def TkOut (cIT : Addr) (x y : V) (H : Hp) (N : Int → Int → Prop) (E : XK) : Prop :=
  (∀ i j : Int, x = .int i → y = .int j → isH i → isH j → N i j) ∧
  (isP 31 x = false → ∀ d, H d = none → E (.ref cIT) (some d) (upd H d (.xd [("part", .str "x")]))) ∧
  (isP 31 x = true → isP 31 y = false → ∀ d, H d = none → E (.ref cIT) (some d) (upd H d (.xd [("part", .str "y")])))
theorem of_isP {x : V} {m : Int} (h : isP m x = true) : ∃ i, x = .int i ∧ 0 ≤ i ∧ i < m := by
  cases x with
  | int i =>
    have h : (decide (0 ≤ i) && decide (i < m)) = true := h
    obtain ⟨h1, h2⟩ := Bool.and_eq_true_iff.mp h
    exact ⟨i, rfl, of_decide_eq_true h1, of_decide_eq_true h2⟩
  | non => cases h
  | bl _ => cases h
  | str _ => cases h
  | byt _ => cases h
  | flt _ => cases h
  | ref _ => cases h
  | ty _ => cases h
def spTkInitX (K : PySem.W.Frag) (cT cIT : Addr) : Sp := fun vs H Q E => ∃ (p dx : Addr) (x y : V), vs = [.ref p, x, y] ∧ H p = some (.ins cT dx []) ∧ Kn K H x ∧ Kn K H y ∧
  TkOut cIT x y H (fun i j => Q .non (upd H p (.ins cT dx (tf i j)))) E
theorem ok_tkinitX {f : Addr} {fd : FuncData} (F : Fun K "__init__" "Ticket.__init__" s_Ticket___init f fd) (T : Tx K mg cT) (c_is_height : Cl P w K mg base 3 "is_height" (spHeight K)) (x_InvalidTicket : Xc1 P w K mg base "InvalidTicket" cIT "part") :
    FnOk P w K mg base (L2.CX P w) 4 f fd ["self", "x", "y"] (spTkInitX K cT cIT) := by
  refine F.okX sc_Ticket___init (fun vs H Q E h => ?_) (fun cdv A outer s H vs Q E hr h => ?_)
  · obtain ⟨p, dx, x, y, rfl, _⟩ := h
    rfl
  · obtain ⟨p, dx, x, y, rfl, hp, hx, hy, o1, o2, o3⟩ := h
    refine ⟨_, (pss_cons (ps_if (pt_not (pt_val (pe_cl c_is_height hr (by decide) (by rfl) (pa_cons (pv 1) pa_nil)))) (pss_one (ps_raise rfl (takes_of rfl rfl rfl rfl) (pmk_x1 x_InvalidTicket hr (by decide) rfl (pa_cons pe_str pa_nil)))) pss_nil)
      (pss_cons (ps_if (pt_not (pt_val (pe_cl c_is_height hr (by decide) (by rfl) (pa_cons (pv 2) pa_nil)))) (pss_one (ps_raise rfl (takes_of rfl rfl rfl rfl) (pmk_x1 x_InvalidTicket hr (by decide) rfl (pa_cons pe_str pa_nil)))) pss_nil)
      (pss_cons (ps_fld (pv 0) (pv 1) rfl)
      (pss_one (ps_fld (pv 0) (pv 2) rfl))))), ?_⟩
    walk_at "rd"
    refine ⟨x, rfl, hx, _, rfl, ?_⟩
    cases ex : isP 31 x with
    | false => exact iteT ⟨_, rfl, fun d nd => o2 ex d nd⟩
    | true =>
      refine iteF ⟨y, rfl, hy, _, rfl, ?_⟩
      cases ey : isP 31 y with
      | false => exact iteT ⟨_, rfl, fun d nd => o3 ex ey d nd⟩
      | true =>
        refine iteF ?_
        obtain ⟨i, rfl, hi1, hi2⟩ := of_isP ex
        obtain ⟨j, rfl, hj1, hj2⟩ := of_isP ey
        refine ⟨_, _, _, hp, T.clT, T.nTx, by show 0 < 1000; decide, _, _, _, upd_same, T.clT, T.nTy, by show 1 < 1000; decide, ?_⟩
        rw [upd_upd]
        exact o1 i j rfl rfl ⟨hi1, by omega⟩ ⟨hj1, by omega⟩
/-! is_up, is_down -/
abbrev s_Ticket_is_up : Stmt := inClass (topS 8) 4
theorem sc_Ticket_is_up : FnScope ["self"] ["self"] (defScope s_Ticket_is_up) := ⟨rfl, rfl, rfl, by decide +kernel, rfl, by decide +kernel, by decide +kernel⟩
abbrev s_Ticket_is_down : Stmt := inClass (topS 8) 5
theorem sc_Ticket_is_down : FnScope ["self"] ["self"] (defScope s_Ticket_is_down) := ⟨rfl, rfl, rfl, by decide +kernel, rfl, by decide +kernel, by decide +kernel⟩
def spTkUp (cT : Addr) : Sp := fun vs H Q _ => ∃ (p : Addr) (x y : Int), vs = [.ref p] ∧ TkAt cT H p x y ∧ Q (.bl (decide (x < y))) H
def spTkDown (cT : Addr) : Sp := fun vs H Q _ => ∃ (p : Addr) (x y : Int), vs = [.ref p] ∧ TkAt cT H p x y ∧ Q (.bl (decide (y < x))) H
theorem ok_tkup {f : Addr} {fd : FuncData} (F : Fun K "is_up" "Ticket.is_up" s_Ticket_is_up f fd) (T : Tx K mg cT) : FnOk P w K mg base CX0 1 f fd ["self"] (spTkUp cT) := by
  refine F.ok sc_Ticket_is_up (fun vs H Q E h => ?_) (fun cdv A outer s H vs Q E hr h => ?_)
  · obtain ⟨p, x, y, rfl, _⟩ := h
    rfl
  · obtain ⟨p, x, y, rfl, ⟨dx, e⟩, q⟩ := h
    refine ⟨_, (pss_one (ps_ret (pe_cmpR op_gt (pe_fld (pv 0) rfl) (pe_fld (pv 0) rfl) (nomark _)))), ?_⟩
    walk_at "rd"
    exact ⟨_, _, _, e, T.clT, T.nTy, _, tf_y x y, _, _, _, e, T.clT, T.nTx, _, tf_x x y, _, rfl, _, rfl, q⟩
theorem ok_tkdown {f : Addr} {fd : FuncData} (F : Fun K "is_down" "Ticket.is_down" s_Ticket_is_down f fd) (T : Tx K mg cT) : FnOk P w K mg base CX0 1 f fd ["self"] (spTkDown cT) := by
  refine F.ok sc_Ticket_is_down (fun vs H Q E h => ?_) (fun cdv A outer s H vs Q E hr h => ?_)
  · obtain ⟨p, x, y, rfl, _⟩ := h
    rfl
  · obtain ⟨p, x, y, rfl, ⟨dx, e⟩, q⟩ := h
    refine ⟨_, (pss_one (ps_ret (pe_cmpR op_lt (pe_fld (pv 0) rfl) (pe_fld (pv 0) rfl) (nomark _)))), ?_⟩
    walk_at "rd"
    exact ⟨_, _, _, e, T.clT, T.nTy, _, tf_y x y, _, _, _, e, T.clT, T.nTx, _, tf_x x y, _, rfl, _, rfl, q⟩
/-! ==, <, in, [ ] -/
/-- a value that is no ticket -/
def NoTk (K : PySem.W.Frag) (cT : Addr) (H : Hp) (v : V) : Prop := ∃ t, TyX K H v t ∧ PySem.W.kitOne K t (.ref cT) = some false
def spTkEqX (K : PySem.W.Frag) (cT : Addr) : Sp := fun vs H Q _ => ∃ (p : Addr) (x y : Int) (o : V), vs = [.ref p, o] ∧ TkAt cT H p x y ∧
  ((∃ (q : Addr) (u v : Int), o = .ref q ∧ TkAt cT H q u v ∧ Q (.bl (decide (x = u) && decide (y = v))) H) ∨ (NoTk K cT H o ∧ Q (.bl false) H))
theorem ok_tkeqX {f : Addr} {fd : FuncData} (F : Fun K "__eq__" "Ticket.__eq__" s_Ticket___eq f fd) (T : Tx K mg cT) : FnOk P w K mg base CX0 1 f fd ["self", "other"] (spTkEqX K cT) := by
  refine F.ok sc_Ticket___eq (fun vs H Q E h => ?_) (fun cdv A outer s H vs Q E hr h => ?_)
  · obtain ⟨p, x, y, o, rfl, _⟩ := h
    rfl
  · obtain ⟨p, x, y, o, rfl, ⟨dx, e⟩, h⟩ := h
    refine ⟨_, (pss_one (ps_ret (pe_and (pe_callB call_isi (by rfl) T.isinstance (by decide +kernel) (pa_cons (pv 1) (pa_cons (pe_glob (v := .ref cT) (by rfl) T.mg_Ticket rfl) pa_nil))) (pe_and (pe_cmpR op_eq (pe_fld (pv 0) rfl) (pe_fld (pv 1) rfl) (nomark _)) (pe_one (pe_cmpR op_eq (pe_fld (pv 0) rfl) (pe_fld (pv 1) rfl) (nomark _))))))), ?_⟩
    rcases h with ⟨q, u, v, rfl, ⟨dy, e2⟩, k⟩ | ⟨⟨t, ty, kt⟩, k⟩ <;> walk_at "rd"
    · refine ⟨_, _, rfl, _, _, .own cT, tk_ty T e2, true, T.kitT, iteT ?_⟩
      refine ⟨_, _, _, e, T.clT, T.nTx, _, tf_x x y, _, _, _, e2, T.clT, T.nTx, _, tf_x u v, rfl, ?_⟩
      have ev : ∀ a b : Int, decide (V.int a = V.int b) = decide (a = b) := fun a b => by
        by_cases e : a = b
        · rw [e, decide_eq_true rfl, decide_eq_true rfl]
        · rw [decide_eq_false e, decide_eq_false (fun z => e (V.int.inj z))]
      rw [ev]
      refine ite2 (fun hb => ⟨_, _, _, e, T.clT, T.nTy, _, tf_y x y, _, _, _, e2, T.clT, T.nTy, _, tf_y u v, rfl, ?_⟩) (fun hb => ?_)
      · rw [ev]
        rw [hb, Bool.true_and] at k
        exact k
      · have : decide (x = u) = false := by simpa using hb
        rw [this, Bool.false_and] at k
        exact k
    · exact ⟨_, _, rfl, _, _, .own cT, ty, false, kt, iteF k⟩
abbrev s_Ticket___lt : Stmt := inClass (topS 8) 7
theorem sc_Ticket___lt : FnScope ["self", "other"] ["self", "other"] (defScope s_Ticket___lt) := ⟨rfl, rfl, rfl, by decide +kernel, rfl, by decide +kernel, by decide +kernel⟩
def spTkLt (cT : Addr) : Sp := fun vs H Q _ => ∃ (p q : Addr) (x y u v : Int), vs = [.ref p, .ref q] ∧ TkAt cT H p x y ∧ TkAt cT H q u v ∧ ∀ H', Same H H' → Q (.bl (if x = u then decide (y < v) else decide (x < u))) H'
theorem ok_tklt {f : Addr} {fd : FuncData} (F : Fun K "__lt__" "Ticket.__lt__" s_Ticket___lt f fd) (T : Tx K mg cT) : FnOk P w K mg base CX0 1 f fd ["self", "other"] (spTkLt cT) := by
  refine F.ok sc_Ticket___lt (fun vs H Q E h => ?_) (fun cdv A outer s H vs Q E hr h => ?_)
  · obtain ⟨p, q, x, y, u, v, rfl, _⟩ := h
    rfl
  · obtain ⟨p, q, x, y, u, v, rfl, ⟨dx, e⟩, ⟨dy, e2⟩, k⟩ := h
    have hu := hu_of hr
    refine ⟨_, (pss_cons (ps_if (pt_not (pt_val (pe_callB call_isi (by rfl) T.isinstance (by decide +kernel) (pa_cons (pv 1) (pa_cons (pe_glob (v := .ref cT) (by rfl) T.mg_Ticket rfl) pa_nil))))) (pss_one ps_never) pss_nil)
      (pss_one (ps_ret (pe_cmpR (op_ltP hu) (pe_tup (pa_cons (pe_fld (pv 0) rfl) (pa_cons (pe_fld (pv 0) rfl) pa_nil))) (pe_tup (pa_cons (pe_fld (pv 1) rfl) (pa_cons (pe_fld (pv 1) rfl) pa_nil))) (nomark _))))), ?_⟩
    walk_at "rd"
    refine ⟨_, _, rfl, _, _, .own cT, tk_ty T e2, true, T.kitT, iteF ?_⟩
    refine ⟨_, _, _, e, T.clT, T.nTx, _, tf_x x y, _, _, _, e, T.clT, T.nTy, _, tf_y x y, by show 2 ≤ sizeLine; decide, fun t1 n1 => ?_⟩
    have s1 : Same H (upd H t1 (.tup [.int x, .int y])) := same_upd n1
    refine ⟨_, _, _, s1 _ _ e2, T.clT, T.nTx, _, tf_x u v, _, _, _, s1 _ _ e2, T.clT, T.nTy, _, tf_y u v, by show 2 ≤ sizeLine; decide, fun t2 n2 => ?_⟩
    have s2 : Same H (upd (upd H t1 (.tup [.int x, .int y])) t2 (.tup [.int u, .int v])) := s1.trans (same_upd n2)
    have h1 : (upd (upd H t1 (.tup [.int x, .int y])) t2 (.tup [.int u, .int v])) t1 = some (.tup [.int x, .int y]) := same_upd n2 _ _ upd_same
    exact ⟨_, _, _, _, _, _, rfl, rfl, SqT.of h1, SqT.of upd_same, k _ s2⟩
abbrev s_Ticket___contains : Stmt := inClass (topS 8) 8
theorem sc_Ticket___contains : FnScope ["self", "x"] ["self", "x"] (defScope s_Ticket___contains) := ⟨rfl, rfl, rfl, by decide +kernel, rfl, by decide +kernel, by decide +kernel⟩
/-- between the two ends -/
def inTk (x y : Int) : V → Bool
  | .int i => (decide (x ≤ i) && decide (i ≤ y)) || (decide (y ≤ i) && decide (i ≤ x))
  | _ => false
def spTkIn (K : PySem.W.Frag) (cT : Addr) : Sp := fun vs H Q _ => ∃ (p : Addr) (x y : Int) (o : V), vs = [.ref p, o] ∧ TkAt cT H p x y ∧ Kn K H o ∧ Q (.bl (inTk x y o)) H
theorem ok_tkin {f : Addr} {fd : FuncData} (F : Fun K "__contains__" "Ticket.__contains__" s_Ticket___contains f fd) (T : Tx K mg cT) (c_is_whole : Cl P w K mg base 1 "is_whole" (spWhole K)) : FnOk P w K mg base CX0 2 f fd ["self", "x"] (spTkIn K cT) := by
  refine F.ok sc_Ticket___contains (fun vs H Q E h => ?_) (fun cdv A outer s H vs Q E hr h => ?_)
  · obtain ⟨p, x, y, o, rfl, _⟩ := h
    rfl
  · obtain ⟨p, x, y, o, rfl, ⟨dx, e⟩, kn, k⟩ := h
    refine ⟨_, (pss_cons (ps_if (pt_not (pt_val (pe_cl c_is_whole hr (by decide) (by rfl) (pa_cons (pv 1) pa_nil)))) (pss_one (ps_ret pe_bl)) pss_nil)
      (pss_one (ps_ret (pe_or (pe_chain op_le op_le (pe_fld (pv 0) rfl) (pv 1) (pe_fld (pv 0) rfl)) (pe_one (pe_chain op_le op_le (pe_fld (pv 0) rfl) (pv 1) (pe_fld (pv 0) rfl))))))), ?_⟩
    walk_at "rd"
    refine ⟨o, rfl, kn, _, rfl, ?_⟩
    cases o with
    | int i =>
      refine iteF ?_
      have fx : ∀ {σ : L2.St} {Q' : VK}, σ[0]? = some (some (.ref p)) → Q' (.int x) H → tFld K (tVar 0) "_x" σ H Q' := fun h q => ⟨.ref p, h, p, _, _, _, _, rfl, e, T.clT, T.nTx, tf_x x y, q⟩
      have fy : ∀ {σ : L2.St} {Q' : VK}, σ[0]? = some (some (.ref p)) → Q' (.int y) H → tFld K (tVar 0) "_y" σ H Q' := fun h q => ⟨.ref p, h, p, _, _, _, _, rfl, e, T.clT, T.nTy, tf_y x y, q⟩
      refine ch_le (a := x) (b := i) (c := y) (fun Q' q => fx rfl q) (fun Q' q => ⟨_, rfl, q⟩) (fun Q' q => fy rfl q) ⟨_, rfl, ?_⟩
      have k : Q (.bl ((decide (x ≤ i) && decide (i ≤ y)) || (decide (y ≤ i) && decide (i ≤ x)))) H := k
      cases hb : (decide (x ≤ i) && decide (i ≤ y)) with
      | true =>
        rw [hb, Bool.true_or] at k
        exact iteT k
      | false =>
        rw [hb, Bool.false_or] at k
        exact iteF (ch_le (a := y) (b := i) (c := x) (fun Q' q => fy rfl q) (fun Q' q => ⟨_, rfl, q⟩) (fun Q' q => fx rfl q) k)
    | non => exact iteT k
    | bl _ => exact iteT k
    | str _ => exact iteT k
    | byt _ => exact iteT k
    | flt _ => exact iteT k
    | ref _ => exact iteT k
    | ty _ => exact iteT k
abbrev s_Ticket___getitem : Stmt := inClass (topS 8) 9
theorem sc_Ticket___getitem : FnScope ["self", "at"] ["self", "at"] (defScope s_Ticket___getitem) := ⟨rfl, rfl, rfl, by decide +kernel, rfl, by decide +kernel, by decide +kernel⟩
def spTkItem (K : PySem.W.Frag) (cT cIN : Addr) : Sp := fun vs H Q E => ∃ (p : Addr) (x y : Int) (o : V), vs = [.ref p, o] ∧ TkAt cT H p x y ∧ Kn K H o ∧ (o = .int 0 → Q (.int x) H) ∧ (o = .int 1 → Q (.int y) H) ∧
  (isP 2 o = false → ∀ d, H d = none → E (.ref cIN) (some d) (upd H d (.xd [("value", o)])))
theorem ok_tkitem {f : Addr} {fd : FuncData} (F : Fun K "__getitem__" "Ticket.__getitem__" s_Ticket___getitem f fd) (T : Tx K mg cT) (c_is_position : Cl P w K mg base 2 "is_position" (spPos K)) (x_InvalidNumber : Xc1 P w K mg base "InvalidNumber" cIN "value") :
    FnOk P w K mg base (L2.CX P w) 3 f fd ["self", "at"] (spTkItem K cT cIN) := by
  refine F.okX sc_Ticket___getitem (fun vs H Q E h => ?_) (fun cdv A outer s H vs Q E hr h => ?_)
  · obtain ⟨p, x, y, o, rfl, _⟩ := h
    rfl
  · obtain ⟨p, x, y, o, rfl, ⟨dx, e⟩, kn, k0, k1, k2⟩ := h
    refine ⟨_, (pss_cons (ps_if (pt_not (pt_val (pe_cl c_is_position hr (by decide) (by rfl) (pa_cons (pv 1) (pa_cons pe_int pa_nil))))) (pss_one (ps_raise rfl (takes_of rfl rfl rfl rfl) (pmk_x1 x_InvalidNumber hr (by decide) rfl (pa_cons (pv 1) pa_nil)))) pss_nil)
      (pss_one (ps_ret (pe_ifExp (pt_cmpR op_eq (pv 1) pe_int (nomark _)) (pe_fld (pv 0) rfl) (pe_fld (pv 0) rfl))))), ?_⟩
    walk_at "rd"
    refine ⟨o, 2, rfl, kn, _, rfl, ?_⟩
    cases eo : isP 2 o with
    | false => exact iteT ⟨_, rfl, fun d nd => k2 eo d nd⟩
    | true =>
      refine iteF ?_
      obtain ⟨i, rfl, h0, h1⟩ := of_isP eo
      refine ⟨rfl, ite2 (fun z => ?_) (fun z => ?_)⟩
      · have z := of_decide_eq_true z
        exact ⟨_, _, _, e, T.clT, T.nTx, _, tf_x x y, k0 z⟩
      · have z : ¬ V.int i = V.int 0 := fun y => z (decide_eq_true y)
        have : i = 1 := by
          have : i ≠ 0 := fun y => z (by rw [y])
          omega
        exact ⟨_, _, _, e, T.clT, T.nTy, _, tf_y x y, k1 (by rw [this])⟩
end
end CT
/-! part HL -/
set_option Elab.async false
set_option linter.all false
set_option maxRecDepth 100000
set_option maxHeartbeats 4000000
namespace CT
open PySem PySem.Spec PyProof.Rows L2
local macro_rules | `(tactic| walk_at "rd") => `(tactic| (try simp only [tSeq, tAsg, tOp, rI0, rI, tC, tVar, gName, tRet, tRetN, tIfS, tIf, tTest, tB, tAnd, tOr, tNot, tAndV, tOrV, tNotV, tCons, tNil, tCall, tCB, tDrop, tNext, rEq, rNe, L2.start, List.length_cons, List.length_nil, List.map_cons, List.map_nil, List.cons_append, List.nil_append, List.append_nil, List.append_eq, List.replicate, List.set_cons_zero, List.set_cons_succ, List.getElem?_cons_zero, List.getElem?_cons_succ, Option.some.injEq, V.int.injEq, V.str.injEq, V.ref.injEq, V.bl.injEq, exists_eq_left', exists_eq_left, exists_and_left, exists_and_right, exists_eq', exists_eq, Nat.reduceSub, Nat.reduceAdd, true_and, and_true, CMul, CDiv, CDivN, cxOf, Cx.nox, Cx.wish, iRng1, iRng2, iEnum, iList, iTup, gTup, gCons, gNil, gSub, rSetL, rIxL, rIxT, wipe, tYes, ↓reduceIte, if_true, tDGet, rNeD, rEqD, tLst, tTup, sDPut, StX.tMakeR, tMakeS, tProp, tMeth, ClX.tCVal, tFld, sFld, tNever, rIsi, tMk1, rCmp, rIn, rItem, tMakeK, tXk, tPairs, tDisp]))
/-! what stays but the tables of code objects -/
abbrev Ex (H H' : Hp) : Prop := LamX.ExtN H H'
theorem Ex.of_same {H H' : Hp} (s : Same H H') : Ex H H' := LamX.ExtN.of s
theorem ex_at {H H' : Hp} {a : Addr} {o : HO} (e : Ex H H') (h : H a = some o) (n : ∀ ps, o ≠ .tbl ps := by intro ps z; cases z) : H' a = some o := e _ _ h n
theorem tyOf_ex {K : PySem.W.Frag} {H H' : Hp} {v : V} {t : Value} (e : Ex H H') (h : TyOf K H v t) : TyOf K H' v t := by
  cases h with
  | non => exact .non
  | bl x => exact .bl x
  | int i => exact .int i
  | str x => exact .str x
  | flt x => exact .flt x
  | lst h => exact .lst (ex_at e h)
  | frz h => exact .frz (ex_at e h)
  | tup h => exact .tup (ex_at e h)
  | dK h => exact .dK (ex_at e h)
  | dT h => exact .dT (ex_at e h)
  | ins h a b c d f => exact .ins (ex_at e h) a b c d f
theorem tyX_ex {K : PySem.W.Frag} {H H' : Hp} {v : V} {t : Value} (e : Ex H H') (h : TyX K H v t) : TyX K H' v t := by
  cases h with
  | base h => exact .base (tyOf_ex e h)
  | byt b => exact .byt b
  | set h => exact .set (ex_at e h)
  | kList h c => exact .kList h c
  | kTuple h c => exact .kTuple h c
  | kDict h c => exact .kDict h c
  | fTuple h => exact .fTuple (ex_at e h)
  | fDict h => exact .fDict (ex_at e h)
/-- the types whose values the law passes -/
def baseTys : List String := ["NoneType", "bool", "int", "str", "list", "tuple", "dict"]
structure AnT (K : PySem.W.Frag) (cT : Addr) : Prop where
  kit : ∀ n ∈ baseTys, PySem.W.kitOne K (.type n) (.ref cT) = some false
  nf : ∀ n ∈ baseTys, PySem.W.notFirst K cT (.type n) = true
/-- a value of one of these types -/
def An (K : PySem.W.Frag) (H : Hp) (v : V) : Prop := ∃ (n : String) (b1 b2 : Bool), n ∈ baseTys ∧ TyX K H v (.type n) ∧ PySem.W.kitOne K (.type n) (.type "int") = some b1 ∧ PySem.W.kitOne K (.type n) (.type "bool") = some b2 ∧ (b1 && !b2) = isW v
section
variable {K : PySem.W.Frag} {H H' : Hp} {v : V} {cT : Addr}
theorem An.ex (h : An K H v) (e : Ex H H') : An K H' v := by
  obtain ⟨n, b1, b2, hn, ty, r⟩ := h
  exact ⟨n, b1, b2, hn, tyX_ex e ty, r⟩
theorem An.kn (h : An K H v) : Kn K H v := by
  obtain ⟨n, b1, b2, hn, ty, r⟩ := h
  exact ⟨_, b1, b2, ty, r⟩
theorem An.noTk (h : An K H v) (T : AnT K cT) : NoTk K cT H v := by
  obtain ⟨n, b1, b2, hn, ty, r⟩ := h
  exact ⟨_, ty, T.kit n hn⟩
theorem an_int (i : Int) : An K H (.int i) := ⟨"int", true, false, by decide, .base (.int i), kit_ty (by decide +kernel), kit_ty (by decide +kernel), rfl⟩
theorem an_bl (b : Bool) : An K H (.bl b) := ⟨"bool", true, true, by decide, .base (.bl b), kit_ty (by decide +kernel), kit_ty (by decide +kernel), rfl⟩
theorem an_non : An K H .non := ⟨"NoneType", false, false, by decide, .base .non, kit_ty (by decide +kernel), kit_ty (by decide +kernel), rfl⟩
theorem an_str (x : Str) : An K H (.str x) := ⟨"str", false, false, by decide, .base (.str x), kit_ty (by decide +kernel), kit_ty (by decide +kernel), rfl⟩
theorem an_lst {a : Addr} {xs : List V} (e : H a = some (.lst xs)) : An K H (.ref a) := ⟨"list", false, false, by decide, .base (.lst e), kit_ty (by decide +kernel), kit_ty (by decide +kernel), rfl⟩
theorem an_tup {a : Addr} {xs : List V} (e : H a = some (.tup xs)) : An K H (.ref a) := ⟨"tuple", false, false, by decide, .base (.tup e), kit_ty (by decide +kernel), kit_ty (by decide +kernel), rfl⟩
theorem an_dK {a : Addr} {kvs : List (Key × V)} (e : H a = some (.dK kvs)) : An K H (.ref a) := ⟨"dict", false, false, by decide, .base (.dK e), kit_ty (by decide +kernel), kit_ty (by decide +kernel), rfl⟩
end
theorem mat_ex {H H' : Hp} {dm dc dg : Addr} {k : Nat} (h : MAt H dm dc dg k) (e : Ex H H') : MAt H' dm dc dg k := by
  obtain ⟨n', cs, gs, hn, h1, h2, h3, r⟩ := h.ex
  exact ⟨n', cs, gs, hn, ex_at e h1, ex_at e h2, ex_at e h3, r⟩
section
variable {P : Program} {w : World} {K : PySem.W.Frag} {mg : Str → Option Value} {base : Heap} {cT cIT cIN : Addr}
abbrev s_law_is_height : Stmt := topS 17
theorem sc_law_is_height : FnScope ["thing_here"] ["thing_here"] (defScope s_law_is_height) := ⟨rfl, rfl, rfl, by decide +kernel, rfl, by decide +kernel, by decide +kernel⟩
theorem ok_isheight {f : Addr} {fd : FuncData} {k : Nat} (F : Fun K "_law_is_height" "_law_is_height" s_law_is_height f fd) (T : Tx K mg cT) : FnOk P w K mg base CX0 (k + 1) f fd ["thing_here"] (spHeight K) := by
  refine F.ok sc_law_is_height (fun vs H Q E h => ?_) (fun cdv A outer s H vs Q E hr h => ?_)
  · obtain ⟨v, rfl, _⟩ := h
    rfl
  · obtain ⟨v, rfl, ⟨t, b1, b2, ty, e1, e2, eb⟩, q⟩ := h
    refine ⟨_, (pss_one (ps_ret (pe_and (pe_callB call_isi (by rfl) T.isinstance (by decide +kernel) (pa_cons (pv 0) (pa_cons (pe_bltn (v := .ty "int") (by rfl) T.b_int (by decide +kernel) rfl) pa_nil))) (pe_and (pe_not (pe_callB call_isi (by rfl) T.isinstance (by decide +kernel) (pa_cons (pv 0) (pa_cons (pe_bltn (v := .ty "bool") (by rfl) T.b_bool (by decide +kernel) rfl) pa_nil)))) (pe_one (pe_chain op_le op_le pe_int (pv 0) pe_int)))))), ?_⟩
    walk_at "rd"
    refine ⟨_, _, rfl, _, _, .ty "int", ty, _, e1, ?_⟩
    refine ite2 (fun hb => ⟨_, _, rfl, _, _, .ty "bool", ty, _, e2, ?_⟩) (fun hb => ?_)
    · subst hb
      rw [Bool.true_and] at eb
      refine ite2 (fun hc => ?_) (fun hc => ?_)
      · rw [eb] at hc
        cases v with
        | int i =>
          refine ch_le (a := 0) (b := i) (c := 30) (fun Q' q => q) (fun Q' q => ⟨_, rfl, q⟩) (fun Q' q => q) ?_
          have : isP 31 (V.int i) = (decide (0 ≤ i) && decide (i ≤ 30)) := by
            show (decide (0 ≤ i) && decide (i < 31)) = _
            congr 1
            exact decide_eq_decide.mpr (by omega)
          rw [this] at q
          exact q
        | non => cases hc
        | bl _ => cases hc
        | str _ => cases hc
        | byt _ => cases hc
        | flt _ => cases hc
        | ref _ => cases hc
        | ty _ => cases hc
      · rw [eb] at hc
        cases v with
        | int i => exact absurd rfl hc
        | non => exact q
        | bl _ => exact q
        | str _ => exact q
        | byt _ => exact q
        | flt _ => exact q
        | ref _ => exact q
        | ty _ => exact q
    · have : b1 = false := by simpa using hb
      subst this
      rw [Bool.false_and] at eb
      cases v with
      | int i => cases eb
      | non => exact q
      | bl _ => exact q
      | str _ => exact q
      | byt _ => exact q
      | flt _ => exact q
      | ref _ => exact q
      | ty _ => exact q
abbrev s_law_begun : Stmt := topS 14
theorem sc_law_begun : FnScope ["script", "m", "cell"] ["script"] (defScope s_law_begun) := ⟨rfl, rfl, rfl, by decide +kernel, rfl, by decide +kernel, by decide +kernel⟩
def spBegun (K : PySem.W.Frag) : Sp := fun vs H Q _ => ∃ (a : Addr) (ns : List Int), vs = [.ref a] ∧ SqL K H a (ns.map V.int) ∧ ns.length ≤ 1000 ∧
  ∀ (H' : Hp) (dm dc dg : Addr), Same H H' → H dm = none → H dg = none → MAt H' dm dc dg 0 → Q (.ref dm) H'
theorem ok_begun {f : Addr} {fd : FuncData} (F : Fun K "_law_begun" "_law_begun" s_law_begun f fd) (T : Tx K mg cT) (c_law_folded : Cl P w K mg base 1 "_law_folded" (spFolded K)) : FnOk P w K mg base CX0 2 f fd ["script"] (spBegun K) := by
  refine F.ok sc_law_begun (fun vs H Q E h => ?_) (fun cdv A outer s H vs Q E hr h => ?_)
  · obtain ⟨a, ns, rfl, _⟩ := h
    rfl
  · obtain ⟨a, ns, rfl, hS, hl, q⟩ := h
    have hu := hu_of hr
    refine ⟨_, (pss_cons (ps_set (i := 1) sc_law_begun.nd rfl (.inl rfl) (pe_disp (pps_cons pe_str (pe_cl c_law_folded hr (by decide) (by rfl) (pa_cons (pv 0) pa_nil)) (pps_cons pe_str (pe_lst pa_nil) (pps_cons pe_str pe_int pps_nil))) (by rfl) (by rfl) (fun z => by cases z) (by decide)))
      (pss_cons (ps_dput hu (pv 1) pe_str (pe_lc (own := [("cell", 2)]) rfl sc_law_begun.nd (pi_list (pv 0)) (blkOk_by (own := [("cell", 2)]) (N := ["script", "m", "cell"]) (sc := defScope s_law_begun) (by decide +kernel)) (fun _ _ _ _ _ => (pg_name (i := 2) sc_law_begun.nd rfl (Or.inl rfl))) (fun _ _ _ _ _ => pts_nil) (fun _ _ _ _ _ => (pe_ifExp (pt_cmpR op_ge (pv 2) (pe_op op_pow pe_int pe_int) (nomark _)) (pv 2) pe_int))) rfl)
      (pss_one (ps_ret (pv 1))))), ?_⟩
    walk_at "rd"
    intro p np
    have s0 : Same H (upd H p (.dK [])) := same_upd np
    refine ⟨a, ns, rfl, s0.seq hS, hl, fun H1 pc cs sm1 npc ec hlc hRc => ⟨Nat.zero_le _, fun dg ndg => ?_⟩⟩
    have ep : H1 p = some (.dK []) := sm1 _ _ upd_same
    have s2 : Same H1 (upd H1 dg (.lst [])) := same_upd ndg
    refine ⟨s2 _ _ ep, [(.inr "cells", .ref pc), (.inr "great", .ref dg), (.inr "spot", .int 0)], rfl, by show 3 ≤ 15; decide, ?_⟩
    have em : mergeK [] [((.inr "cells" : Key), V.ref pc), (.inr "great", .ref dg), (.inr "spot", .int 0)] = mK pc dg 0 := by
      unfold mergeK mK
      simp [putK, kn1, kn2, kn3, Ne.symm kn1, Ne.symm kn2, Ne.symm kn3]
    rw [em]
    have ep2 : (upd (upd H1 dg (.lst [])) p (.dK (mK pc dg 0))) p = some (.dK (mK pc dg 0)) := upd_same
    have npp : pc ≠ p := ne_of ec ep (by intro z; cases z)
    have ec2 : (upd (upd H1 dg (.lst [])) p (.dK (mK pc dg 0))) pc = some (.lst (cs.map V.int)) := by rw [upd_ne npp]; exact s2 _ _ ec
    have sH : Same H (upd (upd H1 dg (.lst [])) p (.dK (mK pc dg 0))) := fun b o e => by
      rw [upd_ne (ne_of_none e np)]
      exact s2 _ _ (sm1 _ _ (s0 _ _ e))
    generalize upd (upd H1 dg (.lst [])) p (.dK (mK pc dg 0)) = H3 at ep2 ec2 sH ⊢
    refine ⟨.ref a, rfl, a, rfl, ⟨_, sH.seq hS⟩, fun D nD => lc_list (xs := ns.map V.int) (fun i H' => Same H3 H' ∧ ∃ gs : List Int, H' D = some (.lst (gs.map V.int)) ∧ gs.length = i ∧ ∀ g ∈ gs, 0 ≤ g)
      ⟨same_upd nD, [], upd_same, rfl, fun g z => by cases z⟩ (fun i H' hi ⟨sm, _⟩ => (sH.trans sm).seq hS) (fun i x H' hx ⟨sm, gs, e, hlen, hg⟩ => ?_) (fun H' ⟨sm, gs, e, hlen, hg⟩ => ?_)⟩
    · have hx2 : ∃ z : Int, x = V.int z := by
        rw [List.getElem?_map] at hx
        cases e9 : ns[i]? with
        | none => rw [e9] at hx; cases hx
        | some z => rw [e9] at hx; exact ⟨z, (Option.some.inj hx).symm⟩
      have hi : i < ns.length := by
        have := (List.getElem?_eq_some_iff.mp hx).1
        rwa [List.length_map] at this
      obtain ⟨z, rfl⟩ := hx2
      walk_at "rd"
      have hz : (gs.map V.int).length < sizeLine := by
        rw [List.length_map, hlen]
        exact small1000 (by omega)
      refine ⟨⟨by decide, by decide, by decide⟩, ite2 (fun hc => ?_) (fun hc => ?_)⟩
      · refine ⟨_, e, hz, sm.put nD, gs ++ [z], ?_, by rw [List.length_append, hlen]; rfl, fun g hm => ?_⟩
        · rw [upd_same, List.map_append]
          rfl
        · rcases List.mem_append.mp hm with h | h
          · exact hg g h
          · rw [List.mem_singleton.mp h]
            exact Int.le_trans (by decide) (of_decide_eq_true hc)
      · refine ⟨_, e, hz, sm.put nD, gs ++ [0], ?_, by rw [List.length_append, hlen]; rfl, fun g hm => ?_⟩
        · rw [upd_same, List.map_append]
          rfl
        · rcases List.mem_append.mp hm with h | h
          · exact hg g h
          · rw [List.mem_singleton.mp h]
            decide
    · walk_at "rd"
      rw [List.length_map] at hlen
      have nD3 : p ≠ D := ne_of_none ep2 nD
      have nDc : pc ≠ D := ne_of_none ec2 nD
      have z := DPut.k (k := Sum.inr "great") (v := V.ref D) (sm _ _ ep2) (by show 3 < sizeLine; decide)
      rw [mK_putg] at z
      refine ⟨_, z, q _ p pc D ?_ np (sH.free nD) ⟨0, cs, gs, Nat.le_refl _, upd_same, ?_, ?_, nDc, hlc, hRc, hg, by omega⟩⟩
      · exact fun b o e => by
          rw [upd_ne (ne_of_none e np)]
          exact sm _ _ (sH _ _ e)
      · rw [upd_ne npp]
        exact sm _ _ ec2
      · rw [upd_ne nD3.symm]
        exact e
abbrev s_law_pair : Stmt := topS 15
theorem sc_law_pair : FnScope ["m", "low", "high"] ["m", "low", "high"] (defScope s_law_pair) := ⟨rfl, rfl, rfl, by decide +kernel, rfl, by decide +kernel, by decide +kernel⟩
def spPair : Sp := fun vs H Q _ => ∃ (dm dc dg : Addr) (lo hi : Int) (k : Nat), vs = [.ref dm, .int lo, .int hi] ∧ MAt H dm dc dg k ∧ k ≤ 1000 ∧ 0 ≤ lo ∧ lo ≤ hi ∧ hi ≤ 100 ∧
  ∀ (H' : Hp) (p : Addr) (x y : Int), Kp dm dg H H' → MAt H' dm dc dg (k + 2) → H p = none → H' p = some (.tup [.int x, .int y]) → lo ≤ x → x ≤ hi → lo ≤ y → y ≤ hi → Q (.ref p) H'
theorem ok_pair {f : Addr} {fd : FuncData} (F : Fun K "_law_pair" "_law_pair" s_law_pair f fd) (c_law_draw : Cl P w K mg base 2 "_law_draw" spDraw) : FnOk P w K mg base CX0 3 f fd ["m", "low", "high"] spPair := by
  refine F.ok sc_law_pair (fun vs H Q E h => ?_) (fun cdv A outer s H vs Q E hr h => ?_)
  · obtain ⟨dm, dc, dg, lo, hi, k, rfl, _⟩ := h
    rfl
  · obtain ⟨dm, dc, dg, lo, hi, k, rfl, M, hk, h0, h1, h2, q⟩ := h
    refine ⟨_, (pss_one (ps_ret (pe_tup (pa_cons (pe_op op_add (pv 1) (pe_cl c_law_draw hr (by decide) (by rfl) (pa_cons (pv 0) (pa_cons (pe_op op_add (pe_op op_sub (pv 2) (pv 1)) pe_int) pa_nil)))) (pa_cons (pe_op op_add (pv 1) (pe_cl c_law_draw hr (by decide) (by rfl) (pa_cons (pv 0) (pa_cons (pe_op op_add (pe_op op_sub (pv 2) (pv 1)) pe_int) pa_nil)))) pa_nil))))), ?_⟩
    walk_at "rd"
    refine ⟨dm, dc, dg, _, k, rfl, M, by omega, by omega, by omega, fun H1 r1 k1 M1 hr0 hr1 => ⟨_, rfl, ?_⟩⟩
    refine ⟨dm, dc, dg, _, k + 1, rfl, M1, by omega, by omega, by omega, fun H2 r2 k2 M2 hs0 hs1 => ⟨_, rfl, by decide, fun p np => ?_⟩⟩
    have k3 := k1.trans k2
    exact q _ p _ _ (k3.put (k3.free np)) (M2.same (same_upd np)) (k3.free np) upd_same (by omega) (by omega) (by omega) (by omega)
abbrev s_law_doubled : Stmt := topS 16
theorem sc_law_doubled : FnScope ["kind", "found", "n"] ["kind"] (defScope s_law_doubled) := ⟨rfl, rfl, rfl, by decide +kernel, rfl, by decide +kernel, by decide +kernel⟩
def spDoubled : Sp := fun vs H Q _ => ∃ n : Int, vs = [.int n] ∧ (n = 0 ∨ n = 1) ∧
  ∀ (H' : Hp) (p : Addr), Same H H' → H p = none → ((∃ xs, H' p = some (.tup xs)) ∨ ∃ xs, H' p = some (.lst xs)) → Q (.ref p) H'
theorem ok_doubled {f : Addr} {fd : FuncData} {k : Nat} (F : Fun K "_law_doubled" "_law_doubled" s_law_doubled f fd) (T : Tx K mg cT) : FnOk P w K mg base CX0 (k + 1) f fd ["kind"] spDoubled := by
  refine F.ok sc_law_doubled (fun vs H Q E h => ?_) (fun cdv A outer s H vs Q E hr h => ?_)
  · obtain ⟨n, rfl, _⟩ := h
    rfl
  · obtain ⟨n, rfl, hn, q⟩ := h
    refine ⟨_, (pss_cons (ps_set (i := 1) sc_law_doubled.nd rfl (.inl rfl) (pe_tup pa_nil))
      (pss_cons (ps_for PassesOwn.never rfl (pi_range1 (by rfl) T.range (pa_cons pe_int pa_nil)) (pg_name (i := 2) sc_law_doubled.nd rfl (.inl rfl)) (pss_one (ps_set (i := 1) sc_law_doubled.nd rfl (.inl rfl) (pe_ix ix_list (pe_lst (pa_cons (pe_tup (pa_cons (pv 1) (pa_cons (pv 1) pa_nil))) (pa_cons (pe_lst (pa_cons (pv 1) (pa_cons (pv 1) pa_nil))) pa_nil))) (pv 0) (fun _ _ => rfl)))))
      (pss_one (ps_ret (pv 1))))), ?_⟩
    walk_at "rd"
    refine ⟨Nat.zero_le _, fun p np => ⟨60, rfl, by decide, by decide, for_range (lo := 0) (n := 60) (fun i σ H' => ∃ (c : Addr) (v : Option V), σ = [some (.int n), some (.ref c), v] ∧ Same H H' ∧ H c = none ∧ ((∃ xs, H' c = some (.tup xs)) ∨ ∃ xs, H' c = some (.lst xs)))
      ⟨p, _, rfl, same_upd np, np, .inl ⟨_, upd_same⟩⟩ ?_ ?_⟩⟩
    · rintro i σ H1 hi ⟨c, v, rfl, sm, nc, hc⟩
      walk_at "rd"
      refine ⟨by decide, fun p1 n1 => ⟨by decide, fun p2 n2 => ⟨by decide, fun p3 n3 => ?_⟩⟩⟩
      have s1 := same_upd (o := .tup [.ref c, .ref c]) n1
      have s2 := same_upd (o := .lst [.ref c, .ref c]) n2
      have s3 := same_upd (o := .lst [.ref p1, .ref p2]) n3
      have sA := sm.trans (s1.trans (s2.trans s3))
      rcases hn with rfl | rfl
      · refine ⟨_, SqL.of upd_same, _, atI_nat (j := 0) rfl, ⟨p1, ⟨_, rfl⟩, sA, sm.free n1, .inl ⟨_, s3 _ _ (s2 _ _ upd_same)⟩⟩⟩
      · refine ⟨_, SqL.of upd_same, _, atI_nat (j := 1) rfl, ⟨p2, ⟨_, rfl⟩, sA, sm.free (s1.free n2), .inr ⟨_, s3 _ _ upd_same⟩⟩⟩
    · rintro σ H1 ⟨c, v, rfl, sm, nc, hc⟩
      walk_at "rd"
      exact q H1 c sm nc hc
end
end CT
/-! part REPR -/
set_option Elab.async false
set_option linter.all false
set_option maxRecDepth 100000
set_option maxHeartbeats 4000000
namespace CT
open PySem PySem.Spec PyProof.Rows L2
/-! repr of a list of data -/
mutual
def nodes : PyData → Nat
  | .list xs | .tuple xs => nodesAll xs + 1
  | _ => 1
def nodesAll : List PyData → Nat
  | [] => 0
  | x :: xs => nodes x + nodesAll xs
end
mutual
/-- short leaves -/
def leafOk : PyData → Prop
  | .none | .bool _ => True
  | .int i => i.natAbs < 2 ^ 128
  | .str x => x.length ≤ 12 ∧ ∀ c ∈ x.cps.toList, c < 16 ^ 8
  | .list xs | .tuple xs => leafOkAll xs
  | .dict kvs => kvs = []
def leafOkAll : List PyData → Prop
  | [] => True
  | x :: xs => leafOk x ∧ leafOkAll xs
end
theorem RegStrF_len {i : Int} (h : i.natAbs.log2 < 1920) : (PySem.Str.ofString (toString i)).length ≤ 1921 := int_text_len_1921 h
theorem list_len (ts : List Str) : (listText ts).length ≤ piled ts + 2 := by
  unfold listText
  rw [strLen_append]
  have e2 : (("]" : String) : Str).length = 1 := rfl
  rw [e2]
  cases ts with
  | nil => decide
  | cons t r =>
    have h := textFrom_length_pos r 1 (("[" : Str) ++ (if (0 : Nat) > 0 then ", " else "" : String) ++ t) (Nat.succ_pos 0)
    have e : ((("[" : Str) ++ (if (0 : Nat) > 0 then ", " else "" : String) ++ t)).length = 1 + t.length := by
      rw [strLen_append, strLen_append]
      rfl
    have hY : (textFrom 0 "[" (t :: r)).length = (textFrom 1 (("[" : Str) ++ (if (0 : Nat) > 0 then ", " else "" : String) ++ t) r).length := rfl
    rw [hY, h, e, piled_cons]
    omega
mutual
theorem shown_le : ∀ d : PyData, leafOk d → d.shown.length + 2 ≤ 2000 * nodes d
  | .none, _ => by simp only [PyData.shown, nodes]; decide +kernel
  | .bool b, _ => by cases b <;> simp only [PyData.shown, nodes] <;> decide +kernel
  | .int i, h => by
    simp only [leafOk] at h
    simp only [PyData.shown, nodes]
    have h2 : i.natAbs.log2 < 128 := by
      by_cases z : i.natAbs = 0
      · rw [z]; decide
      · exact (Nat.log2_lt z).mpr h
    have := RegStrF_len (i := i) (Nat.lt_trans h2 (by decide))
    omega
  | .str x, h => by
    simp only [leafOk] at h
    simp only [PyData.shown, nodes]
    have := StrLaws.reprText_len x h.2
    omega
  | .list xs, h => by
    simp only [leafOk] at h
    have := shown_all xs h
    have := list_len (PyData.shownAll xs)
    simp only [PyData.shown, nodes]
    omega
  | .tuple xs, h => by
    simp only [leafOk] at h
    have := shown_all xs h
    have := fmt_text (PyData.shownAll xs)
    simp only [PyData.shown, nodes]
    omega
  | .dict kvs, h => by
    simp only [leafOk] at h
    subst h
    simp only [PyData.shown, nodes, PyData.shownKv]
    decide +kernel
theorem shown_all : ∀ xs : List PyData, leafOkAll xs → piled (PyData.shownAll xs) ≤ 2000 * nodesAll xs
  | [], _ => by simp only [PyData.shownAll, nodesAll]; decide
  | x :: xs, h => by
    simp only [leafOkAll] at h
    have h1 := shown_le x h.1
    have h2 := shown_all xs h.2
    simp only [PyData.shownAll, nodesAll, piled_cons]
    omega
end
mutual
theorem showable_of : ∀ d : PyData, leafOk d → d.showable = true
  | .none, _ => by simp only [PyData.showable]
  | .bool b, _ => by simp only [PyData.showable]
  | .int i, h => by
    simp only [leafOk] at h
    simp only [PyData.showable, decide_eq_true_eq]
    by_cases z : i.natAbs = 0
    · rw [z]; decide
    · exact Nat.lt_trans ((Nat.log2_lt z).mpr h) (by decide)
  | .str x, _ => by simp only [PyData.showable]
  | .list xs, h => by
    simp only [leafOk] at h
    simp only [PyData.showable]
    exact showable_all xs h
  | .tuple xs, h => by
    simp only [leafOk] at h
    simp only [PyData.showable]
    exact showable_all xs h
  | .dict kvs, h => by
    simp only [leafOk] at h
    subst h
    simp only [PyData.showable, PyData.showableKv]
theorem showable_all : ∀ xs : List PyData, leafOkAll xs → PyData.showableAll xs = true
  | [], _ => by simp only [PyData.showableAll]
  | x :: xs, h => by
    simp only [leafOkAll] at h
    simp only [PyData.showableAll, showable_of x h.1, showable_all xs h.2, Bool.and_self]
end
/-- data, or a dict without pairs -/
inductive Sh (K : PySem.W.Frag) (H : Hp) : V → PyData → Prop
  | dp {v : V} {d : PyData} : Dp K H v d → Sh K H v d
  | ed {a : Addr} : H a = some (.dK []) → Sh K H (.ref a) (.dict [])
inductive ShAll (K : PySem.W.Frag) (H : Hp) : List V → List PyData → Prop
  | nil : ShAll K H [] []
  | cons {v : V} {vs : List V} {d : PyData} {ds : List PyData} : Sh K H v d → ShAll K H vs ds → ShAll K H (v :: vs) (d :: ds)
theorem ShAll.dp {K : PySem.W.Frag} {H : Hp} : ∀ {vs : List V} {ds : List PyData}, DpAll K H vs ds → ShAll K H vs ds
  | [], _, h => by
    cases h
    exact .nil
  | v :: vs, _, h => by
    cases h with
    | cons h1 h2 => exact .cons (.dp h1) (ShAll.dp h2)
section
variable {K : PySem.W.Frag} {H : Hp}
mutual
theorem dp_noDict : ∀ (d : PyData) (v : V), Dp K H v d → d.hasDict = false
  | .none, _, _ => by simp only [PyData.hasDict]
  | .bool _, _, _ => by simp only [PyData.hasDict]
  | .int _, _, _ => by simp only [PyData.hasDict]
  | .str _, _, _ => by simp only [PyData.hasDict]
  | .list ds, _, h => by
    cases h with
    | lst hs ha =>
      simp only [PyData.hasDict]
      exact dpAll_noDict ds _ ha
  | .tuple ds, _, h => by
    cases h with
    | tup hs ha =>
      simp only [PyData.hasDict]
      exact dpAll_noDict ds _ ha
  | .dict _, _, h => by cases h
theorem dpAll_noDict : ∀ (ds : List PyData) (vs : List V), DpAll K H vs ds → PyData.hasDictAll ds = false
  | [], _, _ => by simp only [PyData.hasDictAll]
  | d :: ds, _, h => by
    cases h with
    | cons h1 h2 => simp only [PyData.hasDictAll, dp_noDict d _ h1, dpAll_noDict ds _ h2, Bool.or_self]
end
end
section
variable {X : Cx} {pins : List (Addr × Obj)} {σ : L2.St} {H : Hp} {s : Shared}
theorem sh_reads (I : Inv X pins σ H s) {d : PyData} {v : V} {u : Value} (h : Sh X.K H v d) (r : RelV v u) : ∃ as, Reads s.heap u d as ∧ (d.hasDict = true → sysModules ∉ as) := by
  cases h with
  | dp h =>
    obtain ⟨as, q⟩ := Dp.reads I d v u h r
    exact ⟨as, q, PyData.noDict_hsm (dp_noDict d v h)⟩
  | ed e =>
    cases r
    rename_i a
    obtain ⟨_, hne, vs, hkv, hd⟩ := (I.hok a _ e : ObjOk X.prog X.w H s.heap a (.dK []))
    cases hkv
    obtain ⟨o, es, ep, ho, hex, hdat, _, hps, _⟩ := hd
    have e0 : es.toList = [] := by
      cases hes : es.toList with
      | nil => rfl
      | cons x r =>
        rw [hes] at hps
        cases hps
    have hne' : a ≠ sysModules := by simpa using hne
    refine ⟨_, Reads.dict (kvs := []) (as := []) (bs := []) ho hex.1 hdat (by rw [e0]; exact .nil) (by rw [e0]; exact .nil), fun _ => ?_⟩
    simp [Ne.symm hne']
theorem sh_all (I : Inv X pins σ H s) : ∀ {ds : List PyData} {vs : List V} {us : List Value}, ShAll X.K H vs ds → Vals vs us → leafOkAll ds → nodesAll ds ≤ 4000 →
    ∃ bs, ReadAtMost s.heap (PyData.depthAll ds) bs ∧ ReprAllK X.prog X.w bs s.heap (PyData.depthAll ds) us (PyData.shownAll ds) ∧ ∃ as, ReadsAll s.heap us ds as
  | [], _, _, h, r, _, _ => by
    cases h
    cases r
    simp only [PyData.shownAll]
    exact ⟨[], (fun b hb => by cases hb), .nil, _, .nil⟩
  | d :: ds, _, _, h, r, lf, hz => by
    cases h with
    | cons h1 h2 =>
      cases r with
      | cons r1 r2 =>
        simp only [leafOkAll] at lf
        obtain ⟨as, q1, n1⟩ := sh_reads I h1 r1
        have sz := shown_le d lf.1
        simp only [nodesAll] at hz
        obtain ⟨b1, hb1, k1⟩ := ReprK.of_reads (prog := X.prog) (w := X.w) q1 (showable_of d lf.1) n1 (by rw [sizeLine_eq]; omega)
        obtain ⟨b2, hb2, k2, bs, q2⟩ := sh_all I h2 r2 lf.2 (by omega)
        refine ⟨b1 ++ b2, fun b hb => ?_, ?_, _, ReadsAll.cons q1 q2⟩
        · simp only [PyData.depthAll]
          rcases List.mem_append.mp hb with hb | hb
          · obtain ⟨d', as', r', z⟩ := hb1 b hb
            exact ⟨d', as', r', Nat.le_trans z (Nat.le_max_left _ _)⟩
          · obtain ⟨d', as', r', z⟩ := hb2 b hb
            exact ⟨d', as', r', Nat.le_trans z (Nat.le_max_right _ _)⟩
        · simp only [PyData.depthAll, PyData.shownAll]
          have k1' := (k1.more (as' := b1 ++ b2) fun b hb => List.mem_append_left _ hb).level_le (Nat.le_max_left d.depth (PyData.depthAll ds))
          exact .cons k1' (k2.more_le (fun b hb => List.mem_append_right _ hb) (Nat.le_max_right _ _))
end
section
variable {X : Cx}
/-- repr of a list; nothing is being shown around -/
def rRepr (K : PySem.W.Frag) : List V → Hp → VK → Prop := fun xs H Q => ∃ (a : Addr) (vs : List V) (ds : List PyData), xs = [.ref a] ∧ SqL K H a vs ∧ ShAll K H vs ds ∧ leafOkAll ds ∧ nodesAll ds ≤ 4000 ∧ PyData.depthAll ds ≤ 100 ∧ Q (.str (PyData.list ds).shown) H
theorem call_repr_l {k : Nat} (hg : X.A.guards = some []) (hr : Room k X.A) : CallR X (.builtin "repr") (rRepr X.K) := by
  intro pins s σ H xs us Q I r h
  obtain ⟨a, vs, ds, rfl, hl, hs, lf, hn, hd, q⟩ := h
  cases r with
  | cons r1 r2 =>
  cases r2
  cases r1
  obtain ⟨its, rv, ⟨o, n, ho, hc, _, hdat⟩, _⟩ := I.list hl
  obtain ⟨bs, hb, hk, as, hra⟩ := sh_all I hs rv lf hn
  have sz := list_len (PyData.shownAll ds)
  have sz2 := shown_all ds lf
  have rd : Reads s.heap (.ref a) (.list ds) _ := .list ho hc hdat hra
  have hna : a ∉ bs := not_mem_of_deeper rd (by simp only [PyData.depth]; omega) hb
  have hu := hr.un
  refine call_repr_slot (by omega) ⟨o, ho, hc⟩ F.slot_list_repr.toG ?_
  simp only [PyData.shown] at q
  cases its with
  | nil =>
    cases rv
    cases hs
    simp only [PyData.shownAll, listText_nil] at q
    exact call_list_repr_empty ⟨o, ho, hc⟩ ho hdat ⟨_, _, rfl, .str "[]", H, I.tok _, ⟨_, rfl⟩, q⟩
  | cons x l =>
    refine call_list_reprK ho hc hdat hna (by simpa using hk.length_eq) (fun i y e => hk.item i y (by simpa using e)) hg (fun b _ => Clear.nil b) (by show X.A.units + 1 + (PyData.depthAll ds + 1) < cLine; omega) (fun _ _ e => e) (fun h' u tk hk' => ?_) (by rw [sizeLine_eq]; omega)
    exact ⟨_, _, rfl, .str (listText (PyData.shownAll ds)), H, I.kept hk', ⟨_, rfl⟩, q⟩
end
end CT
/-! part GD -/
set_option Elab.async false
set_option linter.all false
set_option maxRecDepth 100000
set_option maxHeartbeats 4000000
namespace CT
open PySem PySem.Spec PyProof.Rows L2
/-! defs that show values: called where nothing is being shown -/
structure GnOk (P : Program) (w : World) (K : PySem.W.Frag) (mg : Str → Option Value) (base : Heap) (CX : CXT) (k : Nat) (f : Addr) (fd : FuncData) (ps : List Str) (sp : Sp) : Prop where
  len : ∀ vs H Q E, sp vs H Q E → vs.length = ps.length
  go : ∀ (A : Around) (outer : List Env) (s : Shared) (H : Hp) (args : Args) (us : List Value) (vs : List V) (Q : VK) (E : XK), Room k A → A.guards = some [] → Env0 P w K mg base A outer s H → BindsTo s fd args (ps.zip us) → Vals vs us → sp vs H Q E →
    codeAny (model P w) A (.call (.ref f) args) (CR CX outer P w H s Q E) s
structure ClG (P : Program) (w : World) (K : PySem.W.Frag) (mg : Str → Option Value) (base : Heap) (k : Nat) (x : Str) (sp : Sp) : Prop where
  ex : ∃ (f : Addr) (fd : FuncData) (ps : List Str), GnOk P w K mg base CX0 k f fd ps sp ∧ mg x = some (.ref f) ∧ PySem.W.keepIn K (.ref f) = true ∧ Binds K fd ps []
theorem guards_deeper {A : Around} {env : Env} (h : A.guards = some []) : (A.deeper env).guards = some [] := by
  first | exact h | simpa [Around.deeper] using h
section
variable {P : Program} {w : World} {K : PySem.W.Frag} {mg : Str → Option Value} {base : Heap}
/-- a def whose code object stands at c -/
structure FunC (K : PySem.W.Frag) (x qual : Str) (st : Stmt) (f : Addr) (fd : FuncData) (c : Addr) : Prop where
  ex : ∃ (oc : Value) (od : Option Addr) (kV doc pm : Value) (an : Option Addr) (ct : Value) (osl : Array (Option Value)),
    fd = PySem.W.fnOf x qual (defArgs st) (defBody st) (defScope st) .none kV doc pm an (.ref c) ct ∧ K.lookup f = some ⟨oc, od, .func fd, osl⟩ ∧ PySem.W.codeIn K (.ref c) qual = true
  kp : PySem.W.keepIn K (.ref f) = true
theorem FunC.fn {x qual : Str} {st : Stmt} {f : Addr} {fd : FuncData} {c : Addr} (F : FunC K x qual st f fd c) : Fun K x qual st f fd :=
  ⟨let ⟨oc, od, kV, doc, pm, an, ct, osl, h⟩ := F.ex; ⟨oc, od, kV, doc, pm, an, .ref c, ct, osl, h⟩, F.kp⟩
theorem okC {x qual : Str} {st : Stmt} {f c : Addr} {fd : FuncData} {N ps : List Str} {k : Nat} {sp : Sp} (F : FunC K x qual st f fd c) (S : FnScope N ps (defScope st)) (len : ∀ vs H Q E, sp vs H Q E → vs.length = ps.length)
    (hbody : ∀ (A : Around) (outer : List Env) (s : Shared) (H : Hp) (vs : List V) (Q : VK) (E : XK), Room k (A.deeper (envOfC qual (defScope st) s.heap.objs.size f (.ref c))) → sp vs H Q E →
      ∃ t, PSs (cxOf CX0 P w K mg base N qual (defScope st) f (.ref c) A outer s H E).nox (defBody st) t ∧ t { nx := fun _ H' => Q .non H', rt := Q } (start N vs) H) : FnOk P w K mg base CX0 (k + 1) f fd ps sp := by
  obtain ⟨oc, od, kV, doc, pm, an, ct, osl, rfl, lk, hcd⟩ := F.ex
  refine fn_of lk hcd S len fun A outer s H vs Q E hr hsp => ?_
  obtain ⟨t, h, q⟩ := hbody A outer s H vs Q E hr hsp
  exact ⟨t, h.nox, q⟩
theorem okGC {x qual : Str} {st : Stmt} {f : Addr} {cdv : Value} {fd : FuncData} {N ps : List Str} {k : Nat} {sp : Sp} (F : ∃ (oc : Value) (od : Option Addr) (kV doc pm : Value) (an : Option Addr) (ct : Value) (osl : Array (Option Value)),
    fd = PySem.W.fnOf x qual (defArgs st) (defBody st) (defScope st) .none kV doc pm an cdv ct ∧ K.lookup f = some ⟨oc, od, .func fd, osl⟩ ∧ PySem.W.codeIn K cdv qual = true) (S : FnScope N ps (defScope st)) (len : ∀ vs H Q E, sp vs H Q E → vs.length = ps.length)
    (hbody : ∀ (A : Around) (outer : List Env) (s : Shared) (H : Hp) (vs : List V) (Q : VK) (E : XK), Room k (A.deeper (envOfC qual (defScope st) s.heap.objs.size f cdv)) → (A.deeper (envOfC qual (defScope st) s.heap.objs.size f cdv)).guards = some [] → sp vs H Q E →
      ∃ t, PSs (cxOf CX0 P w K mg base N qual (defScope st) f cdv A outer s H E).nox (defBody st) t ∧ t { nx := fun _ H' => Q .non H', rt := Q } (start N vs) H) : GnOk P w K mg base CX0 (k + 1) f fd ps sp := by
  obtain ⟨oc, od, kV, doc, pm, an, ct, osl, rfl, lk, hcd⟩ := F
  refine ⟨len, fun A outer s H args us vs Q E hr hg e0 hb r hsp => ?_⟩
  have hl := len _ _ _ _ hsp
  have KX : K.In s.heap := e0.mod.kin.keeps fun b o e => (e0.bs b o e).1
  have lim : s.heap.NoLimit := e0.mod.nolimit.keeps fun b o e => (e0.bs b o e).1
  have kinds : ∀ y ∈ ps.zip us, (defScope st).names.lookup y.1 = some .local ∨ ((defScope st).names.lookup y.1 = some .cell ∧ ((cellsFrom (s.heap.objs.size + 1) (defScope st).names []).lookup y.1).isSome = true) := by
    rintro ⟨n, v⟩ hy
    rcases S.par n (List.of_mem_zip hy).1 with q | q
    · exact .inl q
    · exact .inr ⟨q, PySem.W.cellsFrom_some _ _ _ (.inl q)⟩
  refine codeAny_call_function hr.depth (KX _ _ lk) rfl S.co S.gen rfl (PySem.W.codeRec_of KX hcd) (hb _ _ _ _ ?_)
  refine wpAny_newFunctionEnv_cells S.kind kinds fun env he s1 x => ?_
  subst he
  refine ⟨lim.keeps x.toInCall.keep, codeAny_func ?_⟩
  obtain ⟨t, ht, hq⟩ := hbody A outer s H vs Q E (hr.deeper _) (guards_deeper hg) hsp
  have I : Inv (cxOf CX0 P w K mg base N qual (defScope st) f cdv A outer s H E) [] (start N vs) H s1 := inv_start S hr.hd e0 hl r x
  refine wpAny_mono (ht.nox.run [] s1 (start N vs) H _ I hq) (fun fl s' hs => ?_) fun e s' hs => hs
  have fin : ∀ {σ' : L2.St} {H' : Hp} {v : V} {u : Value}, Inv (cxOf CX0 P w K mg base N qual (defScope st) f cdv A outer s H E) [] σ' H' s' → RelV v u → Q v H' → CE outer P w H s Q u s' :=
    fun {σ' H' v u} J rv q => ⟨v, H', J.os, J.bare, J.base, J.hok, rv, q⟩
  cases fl with
  | next =>
    obtain ⟨σ', H', J, q⟩ := hs
    exact fin (v := V.non) (u := Value.none) J rfl q
  | ret u =>
    obtain ⟨v, σ', H', J, rv, q⟩ := hs
    exact fin J rv q
  | cont =>
    obtain ⟨_, _, _, q⟩ := hs
    exact q.elim
  | brk =>
    obtain ⟨_, _, _, q⟩ := hs
    exact q.elim
theorem okG {x qual : Str} {st : Stmt} {f : Addr} {fd : FuncData} {N ps : List Str} {k : Nat} {sp : Sp} (F : Fun K x qual st f fd) (S : FnScope N ps (defScope st)) (len : ∀ vs H Q E, sp vs H Q E → vs.length = ps.length)
    (hbody : ∀ (cdv : Value) (A : Around) (outer : List Env) (s : Shared) (H : Hp) (vs : List V) (Q : VK) (E : XK), Room k (A.deeper (envOfC qual (defScope st) s.heap.objs.size f cdv)) → (A.deeper (envOfC qual (defScope st) s.heap.objs.size f cdv)).guards = some [] → sp vs H Q E →
      ∃ t, PSs (cxOf CX0 P w K mg base N qual (defScope st) f cdv A outer s H E).nox (defBody st) t ∧ t { nx := fun _ H' => Q .non H', rt := Q } (start N vs) H) : GnOk P w K mg base CX0 (k + 1) f fd ps sp := by
  obtain ⟨oc, od, kV, doc, pm, an, cdv, ct, osl, h⟩ := F.ex
  exact okGC ⟨oc, od, kV, doc, pm, an, ct, osl, h⟩ S len (hbody cdv)
end
section
variable {X : Cx} {k j : Nat} {x : Str} {sp : Sp} {p pos : Pos} {e : Expr} {es : List Expr} {t : TA}
theorem pe_clG (c : ClG X.prog X.w X.K X.mg X.base k x sp) (hr : Room j X.A) (hk : k ≤ j) (hgd : X.A.guards = some []) (hg : Gl X x) (ha : PA X (e :: es) t)
    (hdb : (x == ("__debug__" : Str)) = false := by decide) (he : starEach (e :: es) X.env = (false, eval e X.env) :: starEach es X.env := by rfl) (hpl : (backTo pos (starEach es X.env)).any (·.1) = false := by rfl) :
    PE X (.Call (.Name x p) (e :: es) [] pos) (tCall sp [] E0 t) := by
  obtain ⟨f, fd, ps, F, hm, kp, b⟩ := c.ex
  refine ⟨fun pins s σ H Q I h => ?_⟩
  refine wpAny_Call_Name_kw (ld_glob I hg hm ?_ hdb)
  refine PySem.W.callWith_K (h₀ := X.base) I.ok.mod.kin kp (thn (ha.run pos pins s σ H _ I h) fun us s1 ⟨vs, H1, I1, r, q⟩ => ⟨I1.kIn, ?_⟩) he hpl
  have q : sp vs H1 Q E0 := by
    have z : sp (vs ++ []) H1 Q E0 := q
    rw [List.append_nil] at z
    exact z
  have hl : us.length = ps.length := by
    rw [← r.length]
    exact F.len _ _ _ _ q
  have hb : BindsTo s1 fd ⟨us, []⟩ (ps.zip us) := by
    have z := b s1 us I1.kIn (by rw [List.append_nil]; exact hl)
    rw [List.append_nil] at z
    exact z
  refine wpAny_call (codeAny_mono (F.go X.A X.stack s1 H1 ⟨us, []⟩ us vs Q E0 (hr.mono hk) hgd I1.env0 hb r q) fun r s' hq => ?_)
  cases r with
  | error e => exact hq.elim
  | ok fl =>
    cases fl with
    | ret u => exact I1.after hq
    | next => exact False.elim hq
    | brk => exact False.elim hq
    | cont => exact False.elim hq
end
end CT
/-! part LAM -/
set_option Elab.async false
set_option linter.all false
set_option maxRecDepth 100000
set_option maxHeartbeats 4000000
namespace CT
open PySem PySem.Spec PyProof.Rows L2
local macro_rules | `(tactic| walk_at "rd") => `(tactic| (try simp only [tSeq, tAsg, tOp, rI0, rI, tC, tVar, gName, tRet, tRetN, tIfS, tIf, tTest, tB, tAnd, tOr, tNot, tAndV, tOrV, tNotV, tCons, tNil, tCall, tCB, tDrop, tNext, rEq, rNe, L2.start, List.length_cons, List.length_nil, List.map_cons, List.map_nil, List.cons_append, List.nil_append, List.append_nil, List.append_eq, List.replicate, List.set_cons_zero, List.set_cons_succ, List.getElem?_cons_zero, List.getElem?_cons_succ, Option.some.injEq, V.int.injEq, V.str.injEq, V.ref.injEq, V.bl.injEq, exists_eq_left', exists_eq_left, exists_and_left, exists_and_right, exists_eq', exists_eq, Nat.reduceSub, Nat.reduceAdd, true_and, and_true, CMul, CDiv, CDivN, cxOf, Cx.nox, Cx.wish, iRng1, iRng2, iEnum, iList, iTup, gTup, gCons, gNil, gSub, rSetL, rIxL, rIxT, wipe, tYes, ↓reduceIte, if_true, tDGet, rNeD, rEqD, tLst, tTup, sDPut, StX.tMakeR, tMakeS, tProp, tMeth, ClX.tCVal, tFld, sFld, tNever, rIsi, tMk1, rCmp, rIn, rItem, tMakeK, tXk, tPairs, tDisp]))
/-! _law_part, _law_value: what a call raises -/
def TPart (C : Addr) (fl : Str) : (XK → Hp → VK → Prop) → Hp → VK → Prop := fun tl H Q =>
  tl (fun cls d H1 => cls = .ref C ∧ ∃ (dd : Addr) (v : V), d = some dd ∧ H1 dd = some (.xd [(fl, v)]) ∧ ∀ H2 l, Same H1 H2 → H1 l = none → H2 l = some (.lst [v]) → Q (.ref l) H2) H
    (fun _ H1 => ∀ H2 l, Same H1 H2 → H1 l = none → H2 l = some (.lst []) → Q (.ref l) H2)
section
variable {X : Cx} {cIT cIN : Addr}
abbrev s_law_part : Stmt := topS 18
theorem sc_law_part : FnScope ["call", "error", "e"] ["call"] (defScope s_law_part) := ⟨rfl, rfl, rfl, by decide +kernel, rfl, by decide +kernel, by decide +kernel⟩
abbrev s_law_value : Stmt := topS 19
theorem sc_law_value : FnScope ["call", "error", "e"] ["call"] (defScope s_law_value) := ⟨rfl, rfl, rfl, by decide +kernel, rfl, by decide +kernel, by decide +kernel⟩
theorem part_gives {g : Addr} {cdg : Value} {q : Str} (x : Xc1 X.prog X.w X.K X.mg X.base "InvalidTicket" cIT "part") : LamX.GivesTo X ["call", "error", "e"] "_law_part" (defScope s_law_part) g cdg (defBody s_law_part) "call" q (TPart cIT "part") := by
  intro f c' s H Q tl act hc h
  have hbody : ∀ (W : WX) (pn : List (Addr × Obj)) (xe : Value → Shared → Prop) (p1 p2 p3 : Pos), Takes ((cxOf C8.CX0 X.prog X.w X.K X.mg X.base ["call", "error", "e"] "_law_part" (defScope s_law_part) g cdg X.A X.stack s H C8.E0).nox.tr pn xe) W →
      PSs ((cxOf C8.CX0 X.prog X.w X.K X.mg X.base ["call", "error", "e"] "_law_part" (defScope s_law_part) g cdg X.A X.stack s H C8.E0).nox.tr pn xe) [.Expr (.Call (.Name "call" p1) [] [] p2) p3]
        (fun D σ H => ∃ (Ech : XK) (Q0 : VK), (∀ cls d σ1 H1, Ech cls d H1 → W cls d σ1 H1) ∧ σ = [some (.ref f), some .non, none] ∧ H c' = some (LamX.CodeO c' q) ∧ tl Ech H Q0 ∧ ∀ v H1, Q0 v H1 → D.nx σ H1) := by
    intro W pn xe p1 p2 p3 tk
    refine ⟨fun pins s1 σ1 H1 D I h1 => ?_⟩
    obtain ⟨Ech, Q0, hW, rfl, h2, h3, h4⟩ := h1
    exact (pss_one (ps_expr (pos := p3) (pe_up (act W pn xe Ech p1 p2 tk (fun cls d σ2 H2 z => hW cls d σ2 H2 z))))).run pins s1 _ H1 D I ⟨Q0, ⟨rfl, h2, h3⟩, h4⟩
  refine ⟨_, pss_cons (ps_set (i := 1) sc_law_part.nd rfl (.inl rfl) pe_non)
    (pss_cons (ps_try_keep (i := 2) (c := .ref cIT) rfl rfl sc_law_part.nd rfl rfl ⟨rfl, by decide, .inl x.gx⟩ LamX.takes0 (fun W pn xe tk _ => hbody W pn xe _ _ _ tk) (fun a pn => pss_one (ps_set (i := 1) sc_law_part.nd rfl (.inl rfl) (pv 2))))
    (pss_one (ps_ret (pe_ifExp (pt_cmpR op_isN (pv 1) pe_non (nomark _)) (pe_lst pa_nil) (pe_lst (pa_cons (pe_xk (pv 1)) pa_nil)))))), ?_⟩
  walk_at "rd"
  refine ⟨_, fun cls d σ1 H1 hE => ?_, hc, _, h, fun v H1 hq => iteT ⟨Nat.zero_le _, fun p np => hq _ p (same_upd np) np upd_same⟩⟩
  obtain ⟨rfl, dd, v, rfl, hd, hq⟩ := hE
  refine ⟨true, x.te, fun _ a na hl => ?_, fun z => nomatch z⟩
  obtain ⟨x0, x1, x2, rfl⟩ : ∃ x0 x1 x2, σ1 = [x0, x1, x2] := by
    match σ1, hl with
    | [x0, x1, x2], _ => exact ⟨x0, x1, x2, rfl⟩
  walk_at "rd"
  refine ite2 (fun z => ?_) (fun _ => ?_)
  · have z := of_decide_eq_true z
    cases z
  · have hd2 : upd H1 a (exk (.ref cIT) (some dd) a) dd = some (.xd [("part", v)]) := same_upd na _ _ hd
    refine ⟨_, x.xf, x.no, _, upd_same, _, hd2, v, ?_, by decide, fun p np => ?_⟩
    · rw [lookup_put, if_pos rfl]
    · have sA := same_upd (o := exk (.ref cIT) (some dd) a) na
      exact hq _ p (sA.trans (same_upd np)) (sA.free np) upd_same
theorem value_gives {g : Addr} {cdg : Value} {q : Str} (x : Xc1 X.prog X.w X.K X.mg X.base "InvalidNumber" cIN "value") : LamX.GivesTo X ["call", "error", "e"] "_law_value" (defScope s_law_value) g cdg (defBody s_law_value) "call" q (TPart cIN "value") := by
  intro f c' s H Q tl act hc h
  have hbody : ∀ (W : WX) (pn : List (Addr × Obj)) (xe : Value → Shared → Prop) (p1 p2 p3 : Pos), Takes ((cxOf C8.CX0 X.prog X.w X.K X.mg X.base ["call", "error", "e"] "_law_value" (defScope s_law_value) g cdg X.A X.stack s H C8.E0).nox.tr pn xe) W →
      PSs ((cxOf C8.CX0 X.prog X.w X.K X.mg X.base ["call", "error", "e"] "_law_value" (defScope s_law_value) g cdg X.A X.stack s H C8.E0).nox.tr pn xe) [.Expr (.Call (.Name "call" p1) [] [] p2) p3]
        (fun D σ H => ∃ (Ech : XK) (Q0 : VK), (∀ cls d σ1 H1, Ech cls d H1 → W cls d σ1 H1) ∧ σ = [some (.ref f), some .non, none] ∧ H c' = some (LamX.CodeO c' q) ∧ tl Ech H Q0 ∧ ∀ v H1, Q0 v H1 → D.nx σ H1) := by
    intro W pn xe p1 p2 p3 tk
    refine ⟨fun pins s1 σ1 H1 D I h1 => ?_⟩
    obtain ⟨Ech, Q0, hW, rfl, h2, h3, h4⟩ := h1
    exact (pss_one (ps_expr (pos := p3) (pe_up (act W pn xe Ech p1 p2 tk (fun cls d σ2 H2 z => hW cls d σ2 H2 z))))).run pins s1 _ H1 D I ⟨Q0, ⟨rfl, h2, h3⟩, h4⟩
  refine ⟨_, pss_cons (ps_set (i := 1) sc_law_value.nd rfl (.inl rfl) pe_non)
    (pss_cons (ps_try_keep (i := 2) (c := .ref cIN) rfl rfl sc_law_value.nd rfl rfl ⟨rfl, by decide, .inl x.gx⟩ LamX.takes0 (fun W pn xe tk _ => hbody W pn xe _ _ _ tk) (fun a pn => pss_one (ps_set (i := 1) sc_law_value.nd rfl (.inl rfl) (pv 2))))
    (pss_one (ps_ret (pe_ifExp (pt_cmpR op_isN (pv 1) pe_non (nomark _)) (pe_lst pa_nil) (pe_lst (pa_cons (pe_xk (pv 1)) pa_nil)))))), ?_⟩
  walk_at "rd"
  refine ⟨_, fun cls d σ1 H1 hE => ?_, hc, _, h, fun v H1 hq => iteT ⟨Nat.zero_le _, fun p np => hq _ p (same_upd np) np upd_same⟩⟩
  obtain ⟨rfl, dd, v, rfl, hd, hq⟩ := hE
  refine ⟨true, x.te, fun _ a na hl => ?_, fun z => nomatch z⟩
  obtain ⟨x0, x1, x2, rfl⟩ : ∃ x0 x1 x2, σ1 = [x0, x1, x2] := by
    match σ1, hl with
    | [x0, x1, x2], _ => exact ⟨x0, x1, x2, rfl⟩
  walk_at "rd"
  refine ite2 (fun z => ?_) (fun _ => ?_)
  · have z := of_decide_eq_true z
    cases z
  · have hd2 : upd H1 a (exk (.ref cIN) (some dd) a) dd = some (.xd [("value", v)]) := same_upd na _ _ hd
    refine ⟨_, x.xf, x.no, _, upd_same, _, hd2, v, ?_, by decide, fun p np => ?_⟩
    · rw [lookup_put, if_pos rfl]
    · have sA := same_upd (o := exk (.ref cIN) (some dd) a) na
      exact hq _ p (sA.trans (same_upd np)) (sA.free np) upd_same
/-- X's def calls _law_part( lambda: body) -/
theorem pe_taker {x a : Str} {st : Stmt} {g c P : Addr} {k : Nat} {fd : FuncData} {Ng : List Str} {T : List (Addr × Str)} {TT : (XK → Hp → VK → Prop) → Hp → VK → Prop} {params : Arguments} {body : Expr} {scope : Scope} {t : XK → TE} {p lpos pos : Pos}
    (F : Fun X.K x x st g fd) (hm : X.mg x = some (.ref g)) (hg : Gl X x) (hb : L2.Binds X.K fd [a] []) (Sg : FnScope Ng [a] (defScope st)) (hNg : Ng[0]? = some a) (hva : Vis (defScope st) a)
    (hG : ∀ cdv : Value, LamX.GivesTo X Ng x (defScope st) g cdv (defBody st) a (X.env.qual ++ "<lambda>") TT)
    (TB : LamX.TabB X.base X.mg c P) (hcode : X.env.code = .ref c) (hmT : (P, X.env.qual ++ "<lambda>") ∈ T) (hu : ∀ p ∈ T, p.1 = P → p.2 = X.env.qual ++ "<lambda>") (hr : Room (k + 2) X.A) (L : LamX.LamS X.env.scope scope) (hdef : defaultsOf params X.env = ([], []))
    (hbind : ∀ (q : Str) (cl : List (Str × Addr)) (pm cv ctv : Value), bindArgs (PySem.W.kla_fn "<lambda>" q params body scope cl pm cv ctv) ⟨[], []⟩ = pure [])
    (hbody : ∀ (A : Around) (outer : List Env) (s : Shared) (H : Hp) (E : XK) (f c' : Addr), Room k (A.deeper (LamX.lamEnv X scope s.heap.objs.size f c')) → PE (LamX.lamCx X A outer s H E scope f c') body (t E))
    (hdb : (x == ("__debug__" : Str)) = false := by decide) (hd : (a == ("__debug__" : Str)) = false := by decide) (hcd : (a == ("__classdict__" : Str)) = false := by decide) :
    PE X (.Call (.Name x p) [.Lambda params body scope lpos] [] pos) (LamX.tLam T TT t) := by
  obtain ⟨oc, od, kV, doc, pm, an, cdv, ct, osl, rfl, lk, hcg⟩ := F.ex
  exact LamX.pe_lamcall hg hm F.kp lk hcg hb Sg hNg hva (hG cdv) TB hcode hmT hu hr L hdef hbind hbody hdb hd hcd
end
/-! _law_checked -/
section
variable {P : Program} {w : World} {K : PySem.W.Frag} {mg : Str → Option Value} {base : Heap} {cT cIT cIN : Addr}
abbrev s_law_checked : Stmt := topS 20
theorem sc_law_checked : FnScope ["near", "far", "due", "told"] ["near", "far"] (defScope s_law_checked) := ⟨rfl, rfl, rfl, by decide +kernel, rfl, by decide +kernel, by decide +kernel⟩
abbrev s_law_refused_right : Stmt := topS 23
theorem sc_law_refused_right : FnScope ["near", "one", "kept", "odds", "odd", "box", "n"] ["near", "one"] (defScope s_law_refused_right) := ⟨rfl, rfl, rfl, by decide +kernel, rfl, by decide +kernel, by decide +kernel⟩
/-- the tables of code objects: at P1 of _law_checked's lambdas, at P2 of _law_refused_right's -/
def tabs (P1 P2 : Addr) : List (Addr × Str) := [(P1, "_law_checked" ++ ".<locals>." ++ "<lambda>"), (P2, "_law_refused_right" ++ ".<locals>." ++ "<lambda>")]
theorem tabs_m1 {P1 P2 : Addr} : (P1, ("_law_checked" : Str) ++ ".<locals>." ++ "<lambda>") ∈ tabs P1 P2 := List.mem_cons_self
theorem tabs_m2 {P1 P2 : Addr} : (P2, ("_law_refused_right" : Str) ++ ".<locals>." ++ "<lambda>") ∈ tabs P1 P2 := List.mem_cons_of_mem _ List.mem_cons_self
theorem tabs_u1 {P1 P2 : Addr} (h : P1 ≠ P2) : ∀ p ∈ tabs P1 P2, p.1 = P1 → p.2 = ("_law_checked" : Str) ++ ".<locals>." ++ "<lambda>" := fun p hp e => by
  rcases List.mem_cons.mp hp with z | z
  · rw [z]
  · rw [List.mem_singleton.mp z] at e
    exact absurd e.symm h
theorem tabs_u2 {P1 P2 : Addr} (h : P1 ≠ P2) : ∀ p ∈ tabs P1 P2, p.1 = P2 → p.2 = ("_law_refused_right" : Str) ++ ".<locals>." ++ "<lambda>" := fun p hp e => by
  rcases List.mem_cons.mp hp with z | z
  · rw [z] at e
    exact absurd e h
  · rw [List.mem_singleton.mp z]
theorem fnR_of {CX : CXT} {k : Nat} {f : Addr} {fd : FuncData} {ps : List Str} {sp : Sp} (F : FnOk P w K mg base CX k f fd ps sp) (hb : L2.Binds K fd ps []) : FnR P w K mg base CX k f sp :=
  (F.raw hb .nil).imp fun vs H Q E h => by
    rw [List.append_nil]
    exact h
/-- what stays through lambdas -/
structure Stay (T : List (Addr × Str)) (H H' : Hp) : Prop where
  ex : Ex H H'
  tb : LamX.Tabs T H'
def spChecked (K : PySem.W.Frag) (T : List (Addr × Str)) : Sp := fun vs H Q _ => ∃ x y : V, vs = [x, y] ∧ An K H x ∧ An K H y ∧ LamX.Tabs T H ∧ ∀ H', Stay T H H' → Q (.bl true) H'
/-- what the lambdas of the law lean on -/
structure LamT (P : Program) (w : World) (K : PySem.W.Frag) (mg : Str → Option Value) (base : Heap) (cT cIT cIN : Addr) : Prop where
  xIT : Xc1 P w K mg base "InvalidTicket" cIT "part"
  xIN : Xc1 P w K mg base "InvalidNumber" cIN "value"
  part : ∃ g fd, Fun K "_law_part" "_law_part" s_law_part g fd ∧ mg "_law_part" = some (.ref g) ∧ L2.Binds K fd ["call"] []
  value : ∃ g fd, Fun K "_law_value" "_law_value" s_law_value g fd ∧ mg "_law_value" = some (.ref g) ∧ L2.Binds K fd ["call"] []
  maker : ∃ f fd, Mk K cT f ∧ FnOk P w K mg base (L2.CX P w) 4 f fd ["self", "x", "y"] (spTkInitX K cT cIT) ∧ mg "Ticket" = some (.ref cT) ∧ L2.Binds K fd ["self", "x", "y"] [] ∧
    KBn K fd ["self", "x", "y"] 1 ["y", "x"] (fun us ws => us ++ ws.reverse) (fun vs zs => vs ++ zs.reverse)
  item : Op (L2.CX P w) P w K mg base 3 cT "__getitem__" (spTkItem K cT cIN)
section
variable {X : Cx}
theorem passX {E : XK} {A : Around} {outer : List Env} {s : Shared} {H : Hp} {scope : Scope} {f c' : Addr} : Passes (L2.CX X.prog X.w) (LamX.lamCx X A outer s H E scope f c') E :=
  passes_call (X := LamX.lamCx X A outer s H E scope f c') (takes_of rfl rfl rfl rfl) (fun _ _ _ _ h => h)
end
/-- what Ticket(x, y) refuses -/
def dues (x y : V) : List V := if isP 31 x = false then [.str "x"] else if isP 31 y = false then [.str "y"] else []
theorem dues_x {x y : V} (h : isP 31 x = false) : dues x y = [.str "x"] := if_pos h
theorem dues_y {x y : V} (h : isP 31 x = true) (h2 : isP 31 y = false) : dues x y = [.str "y"] := by
  unfold dues
  rw [h, if_neg (by decide), if_pos h2]
theorem dues_no {x y : V} (h : isP 31 x = true) (h2 : isP 31 y = true) : dues x y = [] := by
  unfold dues
  rw [h, if_neg (by decide), h2, if_neg (by decide)]
def duesD (x y : V) : List PyData := if isP 31 x = false then [.str "x"] else if isP 31 y = false then [.str "y"] else []
theorem dues_dp {x y : V} {H : Hp} : DpAll K H (dues x y) (duesD x y) := by
  unfold dues duesD
  by_cases h1 : isP 31 x = false
  · rw [if_pos h1, if_pos h1]
    exact .cons (.str _) .nil
  · rw [if_neg h1, if_neg h1]
    by_cases h2 : isP 31 y = false
    · rw [if_pos h2, if_pos h2]
      exact .cons (.str _) .nil
    · rw [if_neg h2, if_neg h2]
      exact .nil
theorem dues_eqv (x y : V) : PyData.eqv (.list [.list (duesD x y), .list (duesD x y)]) (.list [.list (duesD x y), .list (duesD x y)]) = true ∧ SeqAt.shaped (.list [.list (duesD x y), .list (duesD x y)]) = true := by
  unfold duesD
  split
  · exact ⟨by decide +kernel, by decide +kernel⟩
  · split
    · exact ⟨by decide +kernel, by decide +kernel⟩
    · exact ⟨by decide +kernel, by decide +kernel⟩
theorem fr0_ne {H : Hp} {l b : Addr} {o : HO} (f : Fr0 H l) (e : H b = some o) (n : ∀ ps, o ≠ .tbl ps := by intro ps z; cases z) : b ≠ l := fun z => by
  rw [z] at e
  obtain ⟨ps, w⟩ := f o e
  exact n ps w
theorem tk_ways {x y : V} {H H1 : Hp} {T : List (Addr × Str)} {p dx : Addr} {Q : VK} (eN : Ex H H1) (T1 : LamX.Tabs T H1) (ax : An K H x) (ay : An K H y) (np : H1 p = none) (nd : H1 dx = none) (ne : dx ≠ p)
    (q : ∀ H' l, Stay T H H' → Fr0 H l → H' l = some (.lst (dues x y)) → Q (.ref l) H') :
    spTkInitX K cT cIT [.ref p, x, y] (upd (upd H1 dx (.own p)) p (.ins cT dx [])) (fun v H2 => v = .non ∧ ∀ H3 l, Same H2 H3 → H2 l = none → H3 l = some (.lst []) → Q (.ref l) H3)
      (fun cls d H2 => cls = .ref cIT ∧ ∃ (dd : Addr) (v : V), d = some dd ∧ H2 dd = some (.xd [("part", v)]) ∧ ∀ H3 l, Same H2 H3 → H2 l = none → H3 l = some (.lst [v]) → Q (.ref l) H3) := by
  have s1 : Same H1 (upd (upd H1 dx (.own p)) p (.ins cT dx [])) := fun b o e => by rw [upd_ne (ne_of_none e np), upd_ne (ne_of_none e nd)]; exact e
  have e1 : Ex H (upd (upd H1 dx (.own p)) p (.ins cT dx [])) := eN.trans (Ex.of_same s1)
  have new : ∀ {H2 : Hp} {l : Addr}, Same H1 H2 → H2 l = none → Fr0 H l := fun {H2 l} sm e o z => by
    have e2 := sm.free e
    by_cases ht : ∃ ps, o = .tbl ps
    · exact ht
    · have := eN l o z (fun ps w => ht ⟨ps, w⟩)
      rw [e2] at this
      cases this
  refine ⟨p, dx, x, y, rfl, upd_same, (ax.ex e1).kn, (ay.ex e1).kn, fun i j hx hy hi hj => ⟨rfl, fun H3 l sm nl e => ?_⟩, fun hx d nd' => ⟨rfl, d, _, rfl, upd_same, fun H3 l sm nl e => ?_⟩, fun hx hy d nd' => ⟨rfl, d, _, rfl, upd_same, fun H3 l sm nl e => ?_⟩⟩
  · have M := tk_made (cT := cT) (x := i) (y := j) np nd ne
    have sA := M.1.trans sm
    refine q H3 l ⟨eN.trans (Ex.of_same sA), T1.ext sA⟩ (new M.1 nl) ?_
    rw [hx, hy, dues_no (isP_of hi) (isP_of hj)]
    exact e
  · have sA := (s1.trans (same_upd nd')).trans sm
    refine q H3 l ⟨eN.trans (Ex.of_same sA), T1.ext sA⟩ (new (s1.trans (same_upd nd')) nl) ?_
    rw [dues_x hx]
    exact e
  · have sA := (s1.trans (same_upd nd')).trans sm
    refine q H3 l ⟨eN.trans (Ex.of_same sA), T1.ext sA⟩ (new (s1.trans (same_upd nd')) nl) ?_
    rw [dues_y hx hy]
    exact e
theorem ok_checked {f c P1 P2 : Addr} {fd : FuncData} (F : FunC K "_law_checked" "_law_checked" s_law_checked f fd c) (T : Tx K mg cT) (L : LamT P w K mg base cT cIT cIN) (TB : LamX.TabB base mg c P1) (hne : P1 ≠ P2) (c_law_is_height : Cl P w K mg base 1 "_law_is_height" (spHeight K)) :
    FnOk P w K mg base CX0 9 f fd ["near", "far"] (spChecked K (tabs P1 P2)) := by
  refine okC F sc_law_checked (fun vs H Q E h => ?_) (fun A outer s H vs Q E hr h => ?_)
  · obtain ⟨x, y, rfl, _⟩ := h
    rfl
  · obtain ⟨x, y, rfl, ax, ay, tb, q⟩ := h
    obtain ⟨gP, fdP, FP, mP, bP⟩ := L.part
    obtain ⟨fM, fdM, M, FM, gM, bM, kM⟩ := L.maker
    have kx := ax.kn
    have ky := ay.kn
    have part1 : ∀ {σ : L2.St} {Hc : Hp} {Q' : VK}, σ[0]? = some (some x) → σ[1]? = some (some y) → Same H Hc → LamX.Tabs (tabs P1 P2) Hc → (∀ H' l, Stay (tabs P1 P2) Hc H' → Fr0 Hc l → H' l = some (.lst (dues x y)) → Q' (.ref l) H') →
        LamX.tLam (tabs P1 P2) (TPart cIT "part") (fun E => StX.tMakeR cT (spTkInitX K cT cIT) E (tCons (tVar 0) (tCons (tVar 1) tNil))) σ Hc Q' := by
      intro σ Hc Q' h0 h1 sm tc q
      exact ⟨tc, fun H1 eN T1 => ⟨x, h0, y, h1, fun p dx np nd ne => tk_ways eN T1 (ax.ex (Ex.of_same sm)) (ay.ex (Ex.of_same sm)) np nd ne q⟩⟩
    have part2 : ∀ {σ : L2.St} {Hc : Hp} {Q' : VK}, σ[0]? = some (some x) → σ[1]? = some (some y) → Ex H Hc → LamX.Tabs (tabs P1 P2) Hc → (∀ H' l, Stay (tabs P1 P2) Hc H' → Fr0 Hc l → H' l = some (.lst (dues x y)) → Q' (.ref l) H') →
        LamX.tLam (tabs P1 P2) (TPart cIT "part") (fun E => tMakeK cT 0 2 (spTkInitX K cT cIT) (fun vs zs => vs ++ zs.reverse) E tNil (tCons (tVar 1) (tCons (tVar 0) tNil))) σ Hc Q' := by
      intro σ Hc Q' h0 h1 sm tc q
      exact ⟨tc, fun H1 eN T1 => ⟨y, h1, x, h0, rfl, rfl, fun p dx np nd ne => tk_ways eN T1 (ax.ex sm) (ay.ex sm) np nd ne q⟩⟩
    have fin : ∀ (Hc : Hp) (p : Addr), Same H Hc → Hc p = some (.lst (dues x y)) →
        LamX.tLam (tabs P1 P2) (TPart cIT "part") (fun E => StX.tMakeR cT (spTkInitX K cT cIT) E (tCons (tVar 0) (tCons (tVar 1) tNil))) [some x, some y, some (V.ref p), none] Hc fun x_3 H1 =>
          1 ≤ sizeLine ∧ ∀ (p_1 : Addr), H1 p_1 = none →
            tBM K "list" rAppend (tVar 3) (tCons (LamX.tLam (tabs P1 P2) (TPart cIT "part") fun E => tMakeK cT 0 2 (spTkInitX K cT cIT) (fun vs zs => vs ++ zs.reverse) E tNil (tCons (tVar 1) (tCons (tVar 0) tNil))) tNil)
              [some x, some y, some (V.ref p), some (V.ref p_1)] (upd H1 p_1 (HO.lst [x_3])) fun x H1 =>
              2 ≤ sizeLine ∧ ∀ (p_2 : Addr), H1 p_2 = none → ∃ d, Dp K (upd H1 p_2 (HO.lst [V.ref p, V.ref p])) (V.ref p_1) d ∧ ∃ x, Dp K (upd H1 p_2 (HO.lst [V.ref p, V.ref p])) (V.ref p_2) x ∧
                SeqAt.shaped d = true ∧ SeqAt.shaped x = true ∧ Q (V.bl (d.eqv x)) (upd H1 p_2 (HO.lst [V.ref p, V.ref p])) := by
      intro Hc p sm ep
      refine part1 rfl rfl sm (tb.ext sm) fun H1 l1 st1 f1 e1 => ⟨by decide, fun p1 np1 => ?_⟩
      have s1 := same_upd (o := .lst [.ref l1]) np1
      have exA : Ex H (upd H1 p1 (.lst [.ref l1])) := ((Ex.of_same sm).trans st1.ex).trans (Ex.of_same s1)
      refine ⟨.ref p1, rfl, .inl ⟨rfl, _, SqL.of upd_same⟩, ?_⟩
      refine part2 rfl rfl exA (st1.tb.ext s1) fun H2 l2 st2 f2 e2 => ?_
      have g1 : H2 p1 = some (.lst [.ref l1]) := ex_at st2.ex upd_same
      have gl : H2 l1 = some (.lst (dues x y)) := ex_at st2.ex (s1 _ _ e1)
      have gp : H2 p = some (.lst (dues x y)) := ex_at st2.ex (s1 _ _ (ex_at st1.ex ep))
      have nl1 : l1 ≠ p1 := ne_of_none e1 np1
      have npp : p ≠ p1 := ne_of_none (ex_at st1.ex ep) np1
      have nl2 : l2 ≠ p1 := (fr0_ne f2 upd_same).symm
      refine ⟨p1, [.ref l1], .ref l2, rfl, rfl, g1, by show 1 < sizeLine; decide, by decide, fun p3 np3 => ?_⟩
      have s3 := same_upd (o := .lst [.ref p, .ref p]) np3
      have k1 : upd (upd H2 p1 (.lst ([V.ref l1] ++ [.ref l2]))) p3 (.lst [.ref p, .ref p]) p1 = some (.lst [.ref l1, .ref l2]) := s3 _ _ upd_same
      have kl1 : upd (upd H2 p1 (.lst ([V.ref l1] ++ [.ref l2]))) p3 (.lst [.ref p, .ref p]) l1 = some (.lst (dues x y)) := s3 _ _ (by rw [upd_ne nl1]; exact gl)
      have kl2 : upd (upd H2 p1 (.lst ([V.ref l1] ++ [.ref l2]))) p3 (.lst [.ref p, .ref p]) l2 = some (.lst (dues x y)) := s3 _ _ (by rw [upd_ne nl2]; exact e2)
      have kp : upd (upd H2 p1 (.lst ([V.ref l1] ++ [.ref l2]))) p3 (.lst [.ref p, .ref p]) p = some (.lst (dues x y)) := s3 _ _ (by rw [upd_ne npp]; exact gp)
      have D : ∀ {l : Addr}, upd (upd H2 p1 (.lst ([V.ref l1] ++ [.ref l2]))) p3 (.lst [.ref p, .ref p]) l = some (.lst (dues x y)) → Dp K (upd (upd H2 p1 (.lst ([V.ref l1] ++ [.ref l2]))) p3 (.lst [.ref p, .ref p])) (.ref l) (.list (duesD x y)) := fun e => .lst (SqL.of e) dues_dp
      refine ⟨.list [.list (duesD x y), .list (duesD x y)], .lst (SqL.of k1) (.cons (D kl1) (.cons (D kl2) .nil)), .list [.list (duesD x y), .list (duesD x y)], .lst (SqL.of upd_same) (.cons (D kp) (.cons (D kp) .nil)), (dues_eqv x y).2, (dues_eqv x y).2, ?_⟩
      rw [(dues_eqv x y).1]
      refine q _ ⟨fun b o e n => ?_, ?_⟩
      · have z := ex_at st2.ex (ex_at exA e n) n
        refine s3 _ _ ?_
        by_cases hb : b = p1
        · exfalso
          have e' := ex_at ((Ex.of_same sm).trans st1.ex) e n
          rw [hb, np1] at e'
          cases e'
        · rw [upd_ne hb]
          exact z
      · refine LamX.Tabs.ext ?_ s3
        intro pq hpq
        obtain ⟨ps, h1, h2, h3⟩ := st2.tb pq hpq
        refine ⟨ps, by rw [upd_ne (fun z => by rw [z, g1] at h1; cases h1)]; exact h1, h2, fun pos cv hc => ?_⟩
        obtain ⟨c0, a1, a2⟩ := h3 pos cv hc
        refine ⟨c0, a1, by rw [upd_ne (fun z => by rw [z, g1] at a2; unfold LamX.CodeO at a2; cases a2)]; exact a2⟩
    refine ⟨_, (pss_cons (ps_set (i := 2) sc_law_checked.nd rfl (.inl rfl) (pe_lst pa_nil))
      (pss_cons (ps_if (pt_not (pt_val (pe_cl c_law_is_height hr (by decide) (by rfl) (pa_cons (pv 1) pa_nil)))) (pss_one (ps_set (i := 2) sc_law_checked.nd rfl (.inl rfl) (pe_lst (pa_cons pe_str pa_nil)))) pss_nil)
      (pss_cons (ps_if (pt_not (pt_val (pe_cl c_law_is_height hr (by decide) (by rfl) (pa_cons (pv 0) pa_nil)))) (pss_one (ps_set (i := 2) sc_law_checked.nd rfl (.inl rfl) (pe_lst (pa_cons pe_str pa_nil)))) pss_nil)
      (pss_cons (ps_set (i := 3) sc_law_checked.nd rfl (.inl rfl) (pe_lst (pa_cons (pe_taker (T := tabs P1 P2) FP mP (by rfl) bP sc_law_part rfl (.inl rfl) (fun _ => part_gives L.xIT) TB rfl tabs_m1 (tabs_u1 hne) (k := 6) (hr.mono (by decide)) (LamX.lamS_by (show LamX.lamSB (defScope s_law_checked) _ = true from by decide +kernel)) rfl (fun _ _ _ _ _ => rfl) (fun A outer s H E fL cL hL => StX.pe_makeR M (fnR_of FM bM) (hL.mono (by decide)) (by rfl) gM passX (pa_cons (pv 0) (pa_cons (pv 1) pa_nil)))) pa_nil)))
      (pss_cons (ps_expr (pe_bm PySem.F.plainAttrs_list PySem.F.slot_list_append PySem.F.type_list_append mt_append (pv 3) (pa_cons (pe_taker (T := tabs P1 P2) FP mP (by rfl) bP sc_law_part rfl (.inl rfl) (fun _ => part_gives L.xIT) TB rfl tabs_m1 (tabs_u1 hne) (k := 6) (hr.mono (by decide)) (LamX.lamS_by (show LamX.lamSB (defScope s_law_checked) _ = true from by decide +kernel)) rfl (fun _ _ _ _ _ => rfl) (fun A outer s H E fL cL hL => pe_makeK0 M FM (hL.mono (by decide)) (by rfl) gM kM passX (pk_cons (pv 1) (pk_cons (pv 0) pk_nil)))) pa_nil)))
      (pss_one (ps_ret (pe_cmpR (op_eqD hr.units) (pv 3) (pe_lst (pa_cons (pv 2) (pa_cons (pv 2) pa_nil))) (nomark _))))))))), ?_⟩
    walk_at "rd"
    refine ⟨Nat.zero_le _, fun p0 n0 => ?_⟩
    have s0 := same_upd (o := .lst []) n0
    refine ⟨y, rfl, (ay.ex (Ex.of_same s0)).kn, _, rfl, ?_⟩
    cases ey : isP 31 y with
    | false =>
      refine iteT ⟨by decide, fun p1 n1 => ?_⟩
      have s1 := s0.trans (same_upd (o := .lst [.str "y"]) n1)
      refine ⟨x, rfl, (ax.ex (Ex.of_same s1)).kn, _, rfl, ?_⟩
      cases ex : isP 31 x with
      | false =>
        refine iteT ⟨by decide, fun p2 n2 => ?_⟩
        exact fin _ p2 (s1.trans (same_upd n2)) (by rw [dues_x ex]; exact upd_same)
      | true => exact iteF (fin _ p1 s1 (by rw [dues_y ex ey]; exact upd_same))
    | true =>
      refine iteF ⟨x, rfl, (ax.ex (Ex.of_same s0)).kn, _, rfl, ?_⟩
      cases ex : isP 31 x with
      | false =>
        refine iteT ⟨by decide, fun p2 n2 => ?_⟩
        exact fin _ p2 (s0.trans (same_upd n2)) (by rw [dues_x ex]; exact upd_same)
      | true => exact iteF (fin _ p0 s0 (by rw [dues_no ex ey]; exact upd_same))
end
end CT
/-! part HL2 -/
set_option Elab.async false
set_option linter.all false
set_option maxRecDepth 100000
set_option maxHeartbeats 4000000
namespace CT
open PySem PySem.Spec PyProof.Rows L2
local macro_rules | `(tactic| walk_at "rd") => `(tactic| (try simp only [tSeq, tAsg, tOp, rI0, rI, tC, tVar, gName, tRet, tRetN, tIfS, tIf, tTest, tB, tAnd, tOr, tNot, tAndV, tOrV, tNotV, tCons, tNil, tCall, tCB, tDrop, tNext, rEq, rNe, L2.start, List.length_cons, List.length_nil, List.map_cons, List.map_nil, List.cons_append, List.nil_append, List.append_nil, List.append_eq, List.replicate, List.set_cons_zero, List.set_cons_succ, List.getElem?_cons_zero, List.getElem?_cons_succ, Option.some.injEq, V.int.injEq, V.str.injEq, V.ref.injEq, V.bl.injEq, exists_eq_left', exists_eq_left, exists_and_left, exists_and_right, exists_eq', exists_eq, Nat.reduceSub, Nat.reduceAdd, true_and, and_true, CMul, CDiv, CDivN, cxOf, Cx.nox, Cx.wish, iRng1, iRng2, iEnum, iList, iTup, gTup, gCons, gNil, gSub, rSetL, rIxL, rIxT, wipe, tYes, ↓reduceIte, if_true, tDGet, rNeD, rEqD, tLst, tTup, sDPut, StX.tMakeR, tMakeS, tProp, tMeth, ClX.tCVal, tFld, sFld, tNever, rIsi, tMk1, rCmp, rIn, rItem, tMakeK, tXk, tPairs, tDisp, tCon, tPar]))
section
variable {X : Cx}
theorem passE0 : Passes (L2.CX X.prog X.w) X (fun _ _ _ => False) := fun _ _ _ _ _ _ _ h => by
  obtain ⟨_, _, _, _, _, _, _, _, _, _, _, _, z⟩ := h
  exact z.elim
end
/-! what the law reads of tickets -/
section
variable {P : Program} {w : World} {K : PySem.W.Frag} {mg : Str → Option Value} {base : Heap} {cT cIT cIN : Addr}
/-- the rules for tickets, together -/
structure TkR (P : Program) (w : World) (K : PySem.W.Frag) (mg : Str → Option Value) (base : Heap) (cT cIT cIN : Addr) : Prop where
  x : Prp P w K mg base 1 cT "x" (spTkX cT)
  y : Prp P w K mg base 1 cT "y" (spTkY cT)
  is_up : Prp P w K mg base 1 cT "is_up" (spTkUp cT)
  is_down : Prp P w K mg base 1 cT "is_down" (spTkDown cT)
  item : Op (L2.CX P w) P w K mg base 3 cT "__getitem__" (spTkItem K cT cIN)
  eq : Op CX0 P w K mg base 1 cT "__eq__" (spTkEqX K cT)
  lt : Op CX0 P w K mg base 1 cT "__lt__" (spTkLt cT)
  has : Op CX0 P w K mg base 2 cT "__contains__" (spTkIn K cT)
  turned : Me CX0 P w K mg base 6 cT "turned" (spTkTurned cT)
  maker : Mk1 CX0 P w K mg base 4 "Ticket" cT (spTkInit cT)
  m_repr : mg "repr" = none
  m_str : mg "str" = none
  noNe : NoNe K cT
  con : ∃ u : Value, Con K cT "MAX_HEIGHT" (.int 30) u
abbrev s_law_read : Stmt := topS 21
theorem sc_law_read : FnScope ["one"] ["one"] (defScope s_law_read) := ⟨rfl, rfl, rfl, by decide +kernel, rfl, by decide +kernel, by decide +kernel⟩
/-- what is read of a ticket -/
def readV (x y : Int) : List V := [.int x, .int y, .bl (decide (x < y)), .bl (decide (y < x)), .int x, .int y, .int 30]
def spRead (cT : Addr) : Sp := fun vs H Q _ => ∃ (p : Addr) (x y : Int), vs = [.ref p] ∧ TkAt cT H p x y ∧ ∀ H' l, Same H H' → H l = none → H' l = some (.lst (readV x y)) → Q (.ref l) H'
theorem ok_read {f : Addr} {fd : FuncData} (F : Fun K "_law_read" "_law_read" s_law_read f fd) (T : Tx K mg cT) (R : TkR P w K mg base cT cIT cIN) : FnOk P w K mg base CX0 6 f fd ["one"] (spRead cT) := by
  refine F.ok sc_law_read (fun vs H Q E h => ?_) (fun cdv A outer s H vs Q E hr h => ?_)
  · obtain ⟨p, x, y, rfl, _⟩ := h
    rfl
  · obtain ⟨p, x, y, rfl, tk, q⟩ := h
    have P_x := R.x
    have P_y := R.y
    have P_is_up := R.is_up
    have P_is_down := R.is_down
    refine ⟨_, (pss_one (ps_ret (pe_lst (pa_cons (pe_pr (pv 0) P_x hr (by decide) rfl) (pa_cons (pe_pr (pv 0) P_y hr (by decide) rfl) (pa_cons (pe_pr (pv 0) P_is_up hr (by decide) rfl) (pa_cons (pe_pr (pv 0) P_is_down hr (by decide) rfl) (pa_cons (pe_item R.item (hr.mono (by decide)) passE0 (pv 0) pe_int ⟨fun _ _ => rfl⟩) (pa_cons (pe_item R.item (hr.mono (by decide)) passE0 (pv 0) pe_int ⟨fun _ _ => rfl⟩) (pa_cons (pe_con (pv 0) rfl) pa_nil)))))))))), ?_⟩
    walk_at "rd"
    obtain ⟨dx, e⟩ := id tk
    refine ⟨⟨_, _, e⟩, p, x, y, rfl, tk, ⟨_, _, e⟩, p, x, y, rfl, tk, ⟨_, _, e⟩, p, x, y, rfl, tk, ⟨_, _, e⟩, p, x, y, rfl, tk, ⟨_, _, e⟩, p, x, y, .int 0, rfl, tk, kn_int 0, fun _ => ?_, fun z => absurd z (by decide), fun z => absurd z (by decide)⟩
    refine ⟨⟨_, _, e⟩, p, x, y, .int 1, rfl, tk, kn_int 1, fun z => absurd z (by decide), fun _ => ?_, fun z => absurd z (by decide)⟩
    exact ⟨cT, dx, _, e, T.clT, _, R.con, tf_no x y (by decide +kernel) (by decide +kernel), by decide, fun l nl => q _ l (same_upd nl) nl upd_same⟩
theorem dp_pair {H : Hp} {a : Addr} {x y : Int} (h : H a = some (.tup [.int x, .int y])) : Dp K H (.ref a) (.tuple [.int x, .int y]) := .tup (SqT.of h) (.cons (.int x) (.cons (.int y) .nil))
theorem shaped_pair (x y : Int) : SeqAt.shaped (.tuple [.int x, .int y]) = true := by
  unfold SeqAt.shaped
  simp only [PyData.canLay0, PyData.canLayAll0, PyData.depth, PyData.depthAll, Bool.true_and]
  rfl
theorem eqv_pair (x y u v : Int) : PyData.eqv (.tuple [.int x, .int y]) (.tuple [.int u, .int v]) = (decide (x = u) && decide (y = v)) := by
  simp only [PyData.eqv, PyData.eqvAll, Bool.and_true, Bool.beq_eq_decide_eq]
theorem dp_bools {H : Hp} : ∀ bs : List Bool, DpAll K H (bs.map V.bl) (bs.map PyData.bool)
  | [] => .nil
  | b :: r => .cons (.bl b) (dp_bools r)
theorem bools_ok : ∀ bs : List Bool, leafOkAll (bs.map PyData.bool) ∧ nodesAll (bs.map PyData.bool) = bs.length ∧ PyData.depthAll (bs.map PyData.bool) = 0
  | [] => by simp [leafOkAll, nodesAll, PyData.depthAll]
  | b :: r => by
    obtain ⟨h1, h2, h3⟩ := bools_ok r
    simp only [List.map_cons, leafOkAll, leafOk, nodesAll, nodes, PyData.depthAll, PyData.depth, h1, h2, h3, List.length_cons, and_true, true_and, Nat.max_self]
    omega
theorem rep_bools {H : Hp} {l : Addr} {bs : List Bool} {Q : VK} (h : H l = some (.lst (bs.map V.bl))) (hb : bs.length ≤ 1000) (q : Q (.str (PyData.list (bs.map PyData.bool)).shown) H) : rRepr K [.ref l] H Q := by
  obtain ⟨h1, h2, h3⟩ := bools_ok bs
  exact ⟨l, _, _, rfl, SqL.of h, ShAll.dp (dp_bools bs), h1, by omega, by omega, q⟩
abbrev s_law_compared : Stmt := topS 25
theorem sc_law_compared : FnScope ["one", "two", "near", "far", "told"] ["one", "two"] (defScope s_law_compared) := ⟨rfl, rfl, rfl, by decide +kernel, rfl, by decide +kernel, by decide +kernel⟩
def spCompared (cT : Addr) : Sp := fun vs H Q _ => ∃ (p q : Addr) (x y u v : Int), vs = [.ref p, .ref q] ∧ TkAt cT H p x y ∧ TkAt cT H q u v ∧ ∀ H', Same H H' → Q (.bl true) H'
theorem ok_compared {f : Addr} {fd : FuncData} (F : Fun K "_law_compared" "_law_compared" s_law_compared f fd) (T : Tx K mg cT) (R : TkR P w K mg base cT cIT cIN) : GnOk P w K mg base CX0 6 f fd ["one", "two"] (spCompared cT) := by
  refine okG F sc_law_compared (fun vs H Q E h => ?_) (fun cdv A outer s H vs Q E hr hgd h => ?_)
  · obtain ⟨p, q, x, y, u, v, rfl, _⟩ := h
    rfl
  · obtain ⟨p, q, x, y, u, v, rfl, tp, tq, k⟩ := h
    have hu := hu_of hr
    have P_x := R.x
    have P_y := R.y
    refine ⟨_, (pss_cons (ps_par (i := 2) (j := 3) (by rfl) sc_law_compared.nd rfl rfl (by decide) rfl rfl (pa_cons (pe_tup (pa_cons (pe_pr (pv 0) P_x hr (by decide) rfl) (pa_cons (pe_pr (pv 0) P_y hr (by decide) rfl) pa_nil))) (pa_cons (pe_tup (pa_cons (pe_pr (pv 1) P_x hr (by decide) rfl) (pa_cons (pe_pr (pv 1) P_y hr (by decide) rfl) pa_nil))) pa_nil)) (by rfl))
      (pss_cons (ps_set (i := 4) sc_law_compared.nd rfl (.inl rfl) (pe_lst (pa_cons (pe_cmpR (op_cmp (op := .Eq) R.eq rfl (hr.mono (by decide)) pass0) (pv 0) (pv 1) (nomark _)) (pa_cons (pe_cmpR (op_neO R.eq R.noNe (hr.mono (by decide)) pass0) (pv 0) (pv 1) (nomark _)) (pa_cons (pe_cmpR (op_cmp (op := .Lt) R.lt rfl (hr.mono (by decide)) pass0) (pv 0) (pv 1) (nomark _)) (pa_cons (pe_cmpR (op_cmp (op := .Lt) R.lt rfl (hr.mono (by decide)) pass0) (pv 1) (pv 0) (nomark _)) (pa_cons (pe_cmpR (op_gtO R.lt R.noNe (hr.mono (by decide)) pass0) (pv 1) (pv 0) (nomark _)) pa_nil)))))))
      (pss_one (ps_ret (pe_cmpR op_eq (pe_callB (call_repr_l hgd hr) (by rfl) R.m_repr (by decide +kernel) (pa_cons (pv 4) pa_nil)) (pe_callB (call_repr_l hgd hr) (by rfl) R.m_repr (by decide +kernel) (pa_cons (pe_lst (pa_cons (pe_cmpR (op_eqD hr.units) (pv 2) (pv 3) (nomark _)) (pa_cons (pe_cmpR (op_neD hr.units) (pv 2) (pv 3) (nomark _)) (pa_cons (pe_cmpR (op_ltP hu) (pv 2) (pv 3) (nomark _)) (pa_cons (pe_cmpR (op_ltP hu) (pv 3) (pv 2) (nomark _)) (pa_cons (pe_cmpR (op_ltP hu) (pv 2) (pv 3) (nomark _)) pa_nil)))))) pa_nil)) (nomark _)))))), ?_⟩
    walk_at "rd"
    obtain ⟨dx, e⟩ := id tp
    obtain ⟨dy, e2⟩ := id tq
    refine ⟨⟨_, _, e⟩, p, x, y, rfl, tp, ⟨_, _, e⟩, p, x, y, rfl, tp, by decide, fun a1 n1 => ?_⟩
    have s1 : Same H (upd H a1 (.tup [.int x, .int y])) := same_upd n1
    refine ⟨⟨_, _, s1 _ _ e2⟩, q, u, v, rfl, tq.same s1, ⟨_, _, s1 _ _ e2⟩, q, u, v, rfl, tq.same s1, by decide, fun a2 n2 => ⟨_, _, rfl, ?_⟩⟩
    have s2 : Same H (upd (upd H a1 (.tup [.int x, .int y])) a2 (.tup [.int u, .int v])) := s1.trans (same_upd n2)
    have h1 : upd (upd H a1 (.tup [.int x, .int y])) a2 (.tup [.int u, .int v]) a1 = some (.tup [.int x, .int y]) := same_upd n2 _ _ upd_same
    have h2 : upd (upd H a1 (.tup [.int x, .int y])) a2 (.tup [.int u, .int v]) a2 = some (.tup [.int u, .int v]) := upd_same
    generalize upd (upd H a1 (.tup [.int x, .int y])) a2 (.tup [.int u, .int v]) = H2 at s2 h1 h2 ⊢
    have nf := R.noNe.nf
    refine ⟨⟨_, _, s2 _ _ e⟩, _, tk_ty T (s2 _ _ e2), nf, p, x, y, .ref q, rfl, tp.same s2, .inl ⟨q, u, v, rfl, tq.same s2, ?_⟩⟩
    refine ⟨p, dx, _, _, rfl, s2 _ _ e, tk_ty T (s2 _ _ e2), nf, p, x, y, .ref q, rfl, tp.same s2, .inl ⟨q, u, v, rfl, tq.same s2, _, rfl, ?_⟩⟩
    refine ⟨⟨_, _, s2 _ _ e⟩, _, tk_ty T (s2 _ _ e2), nf, p, q, x, y, u, v, rfl, tp.same s2, tq.same s2, fun H3 t3 => ?_⟩
    have s3 := s2.trans t3
    refine ⟨⟨_, _, s3 _ _ e2⟩, _, tk_ty T (s3 _ _ e), nf, q, p, u, v, x, y, rfl, tq.same s3, tp.same s3, fun H4 t4 => ?_⟩
    have s4 := s3.trans t4
    refine ⟨q, _, _, p, _, _, rfl, s4 _ _ e2, rfl, s4 _ _ e, p, q, x, y, u, v, rfl, tp.same s4, tq.same s4, fun H5 t5 => ?_⟩
    have s5 := s4.trans t5
    have t25 := t3.trans (t4.trans t5)
    replace h1 := t25 _ _ h1
    replace h2 := t25 _ _ h2
    have s5' := s5
    clear t25 t5 t4 t3 s4 s3 s2 s1 n1 n2
    walk_at "rd"
    refine ⟨by decide, fun l1 m1 => ?_⟩
    refine rep_bools (bs := [decide (x = u) && decide (y = v), !(decide (x = u) && decide (y = v)), if x = u then decide (y < v) else decide (x < u), if u = x then decide (v < y) else decide (u < x), if x = u then decide (y < v) else decide (x < u)]) upd_same (by show 5 ≤ 1000; decide) ?_
    have g1 := same_upd (o := .lst [V.bl (decide (x = u) && decide (y = v)), V.bl !(decide (x = u) && decide (y = v)), V.bl (if x = u then decide (y < v) else decide (x < u)), V.bl (if u = x then decide (v < y) else decide (u < x)), V.bl (if x = u then decide (y < v) else decide (x < u))]) m1
    have d1 : Dp K (upd H5 l1 (.lst [V.bl (decide (x = u) && decide (y = v)), V.bl !(decide (x = u) && decide (y = v)), V.bl (if x = u then decide (y < v) else decide (x < u)), V.bl (if u = x then decide (v < y) else decide (u < x)), V.bl (if x = u then decide (y < v) else decide (x < u))])) (.ref a1) (.tuple [.int x, .int y]) := dp_pair (g1 _ _ h1)
    have d2 : Dp K (upd H5 l1 (.lst [V.bl (decide (x = u) && decide (y = v)), V.bl !(decide (x = u) && decide (y = v)), V.bl (if x = u then decide (y < v) else decide (x < u)), V.bl (if u = x then decide (v < y) else decide (u < x)), V.bl (if x = u then decide (y < v) else decide (x < u))])) (.ref a2) (.tuple [.int u, .int v]) := dp_pair (g1 _ _ h2)
    refine ⟨_, d1, _, d2, shaped_pair x y, shaped_pair u v, _, d1, _, d2, shaped_pair x y, shaped_pair u v, ?_⟩
    refine ⟨a1, a2, x, y, u, v, rfl, rfl, SqT.of (g1 _ _ h1), SqT.of (g1 _ _ h2), ?_⟩
    refine ⟨a2, a1, u, v, x, y, rfl, rfl, SqT.of (g1 _ _ h2), SqT.of (g1 _ _ h1), ?_⟩
    refine ⟨a1, a2, x, y, u, v, rfl, rfl, SqT.of (g1 _ _ h1), SqT.of (g1 _ _ h2), by decide, fun l2 m2 => ?_⟩
    refine rep_bools (bs := [PyData.eqv (.tuple [.int x, .int y]) (.tuple [.int u, .int v]), !PyData.eqv (.tuple [.int x, .int y]) (.tuple [.int u, .int v]), if x = u then decide (y < v) else decide (x < u), if u = x then decide (v < y) else decide (u < x), if x = u then decide (y < v) else decide (x < u)]) upd_same (by show 5 ≤ 1000; decide) ?_
    rw [eqv_pair]
    refine ⟨rfl, ?_⟩
    rw [decide_eq_true rfl]
    exact k _ (s5'.trans (g1.trans (same_upd m2)))
abbrev s_law_ordered : Stmt := topS 26
theorem sc_law_ordered : FnScope ["things", "found", "one", "at", "far"] ["things"] (defScope s_law_ordered) := ⟨rfl, rfl, rfl, by decide +kernel, rfl, by decide +kernel, by decide +kernel⟩
/-- things put in order by lt, one after the other -/
def ordS {α : Type} (lt : α → α → Bool) (found : List α) (one : α) : List α := found.take (found.filter fun far => !lt one far).length ++ [one] ++ found.drop (found.filter fun far => !lt one far).length
def ordA {α : Type} (lt : α → α → Bool) (things : List α) : List α := things.foldl (ordS lt) []
/-- the order of pairs -/
def ltP (a b : Int × Int) : Bool := if a.1 = b.1 then decide (a.2 < b.2) else decide (a.1 < b.1)
theorem cut_to {xs : List V} {n : Nat} (h : n ≤ xs.length) : cutV xs none (some (n : Int)) = xs.take n := by
  unfold cutV
  have e1 : HT.sIx xs.length xs.length (some (n : Int)) = n := by
    rw [HT.sIx_nat]
    omega
  have e2 : HT.sIx xs.length 0 none = 0 := rfl
  rw [e1, e2]
  simp
theorem cut_from {xs : List V} {n : Nat} (h : n ≤ xs.length) : cutV xs (some (n : Int)) none = xs.drop n := by
  unfold cutV
  have e1 : HT.sIx xs.length 0 (some (n : Int)) = n := by
    rw [HT.sIx_nat]
    omega
  have e2 : HT.sIx xs.length xs.length none = xs.length := rfl
  rw [e1, e2]
  rw [List.take_of_length_le]
  rw [List.length_drop]
  exact Nat.le_refl _
theorem ordS_len {α : Type} (lt : α → α → Bool) (found : List α) (one : α) : (ordS lt found one).length = found.length + 1 := by
  unfold ordS
  rw [List.length_append, List.length_append, List.length_take, List.length_drop, List.length_singleton]
  have := List.length_filter_le (fun far => !lt one far) found
  omega
theorem ordS_mem {α : Type} {lt : α → α → Bool} {found : List α} {one t : α} (h : t ∈ ordS lt found one) : t ∈ found ∨ t = one := by
  unfold ordS at h
  rcases List.mem_append.mp h with h | h
  · rcases List.mem_append.mp h with h | h
    · exact .inl (List.mem_of_mem_take h)
    · exact .inr (List.mem_singleton.mp h)
  · exact .inl (List.mem_of_mem_drop h)
theorem fold_len {α : Type} (lt : α → α → Bool) : ∀ (xs acc : List α), (xs.foldl (ordS lt) acc).length = acc.length + xs.length
  | [], acc => rfl
  | x :: r, acc => by
    rw [List.foldl_cons, fold_len lt r, ordS_len, List.length_cons]
    omega
theorem fold_mem {α : Type} {lt : α → α → Bool} {t : α} : ∀ {xs acc : List α}, t ∈ xs.foldl (ordS lt) acc → t ∈ acc ∨ t ∈ xs
  | [], acc, h => .inl h
  | x :: r, acc, h => by
    rw [List.foldl_cons] at h
    rcases fold_mem h with h | h
    · rcases ordS_mem h with h | h
      · exact .inl h
      · exact .inr (by rw [h]; exact List.mem_cons_self)
    · exact .inr (List.mem_cons_of_mem _ h)
theorem fold_map {α β : Type} (f : α → β) (lt : α → α → Bool) (lt' : β → β → Bool) : ∀ (xs acc : List α), (∀ a b, lt a b = lt' (f a) (f b)) → (xs.foldl (ordS lt) acc).map f = (xs.map f).foldl (ordS lt') (acc.map f)
  | [], acc, h => rfl
  | x :: r, acc, h => by
    rw [List.foldl_cons, List.map_cons, List.foldl_cons, fold_map f lt lt' r _ h]
    congr 1
    unfold ordS
    have e : ((acc.map f).filter fun far => !lt' (f x) far).length = (acc.filter fun far => !lt x far).length := by
      rw [List.filter_map, List.length_map]
      congr 2
      funext b
      show (!lt' (f x) (f b)) = !lt x b
      rw [h]
    rw [e, List.map_append, List.map_append, List.map_take, List.map_drop]
    rfl
theorem fold_step {α : Type} (lt : α → α → Bool) {ts : List α} {i : Nat} {t : α} (h : ts[i]? = some t) : (ts.take (i + 1)).foldl (ordS lt) [] = ordS lt ((ts.take i).foldl (ordS lt) []) t := by
  rw [List.take_add_one, h, List.foldl_append]
  rfl
def spOrdered (K : PySem.W.Frag) (cT : Addr) : Sp := fun vs H Q _ => ∃ (a : Addr) (ts : List Addr) (key : Addr → Int × Int), vs = [.ref a] ∧ SqL K H a (ts.map V.ref) ∧ ts.length ≤ 1000 ∧ (∀ t ∈ ts, TkAt cT H t (key t).1 (key t).2) ∧
  ∀ H' l, Same H H' → H l = none → H' l = some (.lst ((ordA (fun s t => ltP (key s) (key t)) ts).map V.ref)) → Q (.ref l) H'
theorem ok_ordered {f : Addr} {fd : FuncData} (F : Fun K "_law_ordered" "_law_ordered" s_law_ordered f fd) (T : Tx K mg cT) (R : TkR P w K mg base cT cIT cIN) : FnOk P w K mg base CX0 6 f fd ["things"] (spOrdered K cT) := by
  refine F.ok sc_law_ordered (fun vs H Q E h => ?_) (fun cdv A outer s H vs Q E hr h => ?_)
  · obtain ⟨a, ts, key, rfl, _⟩ := h
    rfl
  · obtain ⟨a, ts, key, rfl, hS, hl, hk, q⟩ := h
    have hu := hu_of hr
    refine ⟨_, (pss_cons (ps_set (i := 1) sc_law_ordered.nd rfl (.inl rfl) (pe_lst pa_nil))
      (pss_cons (ps_for PassesOwn.never rfl (pi_list (pv 0)) (pg_name (i := 2) sc_law_ordered.nd rfl (.inr rfl)) (pss_cons (ps_set (i := 3) sc_law_ordered.nd rfl (.inl rfl) (pe_callB call_len_seq (by rfl) T.len PySem.boot_len (pa_cons (pe_lc (own := [("far", 4)]) rfl sc_law_ordered.nd (pi_list (pv 1)) (blkOk_by (own := [("far", 4)]) (N := ["things", "found", "one", "at", "far"]) (sc := defScope s_law_ordered) (by decide +kernel)) (fun _ _ _ _ _ => (pg_name (i := 4) sc_law_ordered.nd rfl (Or.inl rfl))) (fun _ _ _ _ _ => (pts_one (pt_not (pt_cmpR (show OpR _ _ (rCmp K cT (spTkLt cT) E0) from op_cmp (op := .Lt) R.lt rfl (hr.mono (by decide)) pass0) (pv 2) (pv 4) (nomark _))))) (fun _ _ _ _ _ => (pv 4))) pa_nil)))
      (pss_one (ps_set (i := 1) sc_law_ordered.nd rfl (.inl rfl) (pe_op op_cat (pe_op op_cat (pe_slice sl_list (pv 1) po_none (po_some (pv 3))) (pe_lst (pa_cons (pv 2) pa_nil))) (pe_slice sl_list (pv 1) (po_some (pv 3)) po_none))))))
      (pss_one (ps_ret (pv 1))))), ?_⟩
    walk_at "rd"
    refine ⟨Nat.zero_le _, fun p np => ?_⟩
    refine ⟨_, rfl, a, rfl, ⟨_, (same_upd np).seq hS⟩, for_list (xs := ts.map V.ref) (fun i σ H' => ∃ (c : Addr) (v2 v3 v4 : Option V), σ = [some (.ref a), some (.ref c), v2, v3, v4] ∧ Same H H' ∧ H c = none ∧ H' c = some (.lst (((ts.take i).foldl (ordS fun s t => ltP (key s) (key t)) []).map V.ref)))
      ⟨p, _, _, _, rfl, same_upd np, np, upd_same⟩ (fun i σ H' _ ⟨_, _, _, _, _, sm, _⟩ => sm.seq hS) ?_ ?_⟩
    · rintro i x σ H1 hx ⟨c, v2, v3, v4, rfl, sm, nc, hc⟩
      obtain ⟨t, ht, rfl⟩ : ∃ t, ts[i]? = some t ∧ x = V.ref t := by
        rw [List.getElem?_map] at hx
        cases e9 : ts[i]? with
        | none => rw [e9] at hx; cases hx
        | some z => rw [e9] at hx; exact ⟨z, rfl, (Option.some.inj hx).symm⟩
      rw [fold_step _ ht]
      have hlen := fold_len (fun s t => ltP (key s) (key t)) (ts.take i) []
      have hmem : ∀ b ∈ (ts.take i).foldl (ordS fun s t => ltP (key s) (key t)) [], b ∈ ts := fun b hb => by
        rcases fold_mem hb with h | h
        · cases h
        · exact List.mem_of_mem_take h
      generalize (ts.take i).foldl (ordS fun s t => ltP (key s) (key t)) [] = acc at hc hlen hmem ⊢
      have hal : acc.length ≤ 1000 := by
        rw [hlen, List.length_take]
        simp only [List.length_nil]
        omega
      have ht' : t ∈ ts := List.mem_of_getElem? ht
      walk_at "rd"
      refine ⟨_, rfl, c, rfl, ⟨_, SqL.of hc⟩, fun D nD => lc_list (xs := acc.map V.ref) (fun j H' => Same H1 H' ∧ H' D = some (.lst (((acc.take j).filter fun far => !ltP (key t) (key far)).map V.ref)))
        ⟨same_upd nD, upd_same⟩ (fun j H' _ ⟨s1, _⟩ => SqL.of (s1 _ _ hc)) (fun j y H2 hy ⟨s1, hD⟩ => ?_) (fun H2 ⟨s1, hD⟩ => ?_)⟩
      · obtain ⟨far, hf, rfl⟩ : ∃ far, acc[j]? = some far ∧ y = V.ref far := by
          rw [List.getElem?_map] at hy
          cases e9 : acc[j]? with
          | none => rw [e9] at hy; cases hy
          | some z => rw [e9] at hy; exact ⟨z, rfl, (Option.some.inj hy).symm⟩
        have hj : j < acc.length := (List.getElem?_eq_some_iff.mp hf).1
        have tk1 := (hk t ht').same (sm.trans s1)
        have tk2 := (hk far (hmem far (List.mem_of_getElem? hf))).same (sm.trans s1)
        obtain ⟨dx, e⟩ := id tk1
        obtain ⟨dy, e2⟩ := id tk2
        rw [List.take_add_one, hf, List.filter_append, List.map_append]
        walk_at "rd"
        refine ⟨⟨_, _, e⟩, _, tk_ty T e2, R.noNe.nf, t, far, _, _, _, _, rfl, tk1, tk2, fun H3 s3 => ⟨_, rfl, ?_⟩⟩
        have lf := List.length_filter_le (fun far => !ltP (key t) (key far)) (acc.take j)
        rw [List.length_take] at lf
        have one : (([far] : List Addr).filter fun far => !ltP (key t) (key far)) = if ltP (key t) (key far) then [] else [far] := by
          cases z : ltP (key t) (key far) with
          | true => rw [List.filter_cons_of_neg (by simp [z])]; rfl
          | false => rw [List.filter_cons_of_pos (by simp [z])]; rfl
        show if (!ltP (key t) (key far)) = true then _ else _
        have opt : (some far : Option Addr).toList = [far] := rfl
        rw [opt, one]
        cases z : ltP (key t) (key far) with
        | true =>
          refine iteF ⟨s1.trans s3, ?_⟩
          rw [if_pos rfl, List.map_nil, List.append_nil]
          exact s3 _ _ hD
        | false =>
          refine iteT ⟨_, s3 _ _ hD, ?_, ?_, ?_⟩
          · rw [List.length_map]
            exact small1000 (by omega)
          · intro b o eb
            rw [upd_ne (ne_of_none eb nD)]
            exact s3 _ _ (s1 _ _ eb)
          · rw [upd_same, if_neg (by decide)]
            rfl
      · walk_at "rd"
        rw [List.length_map, List.take_length] at hD
        have lf := List.length_filter_le (fun far => !ltP (key t) (key far)) acc
        refine ⟨D, rfl, _, .inl (SqL.of hD), ?_⟩
        rw [List.length_map]
        have hn : (acc.filter fun far => !ltP (key t) (key far)).length ≤ (acc.map V.ref).length := by rw [List.length_map]; exact lf
        have eO : (ordS (fun s t => ltP (key s) (key t)) acc t).map V.ref = ((acc.map V.ref).take (acc.filter fun far => !ltP (key t) (key far)).length ++ [V.ref t]) ++ (acc.map V.ref).drop (acc.filter fun far => !ltP (key t) (key far)).length := by
          unfold ordS
          rw [List.map_append, List.map_append, List.map_take, List.map_drop]
          rfl
        rw [eO]
        generalize (acc.filter fun far => !ltP (key t) (key far)).length = n at hn ⊢
        have s2 := sm.trans s1
        have hc2 := s1 _ _ hc
        refine ⟨.ref c, rfl, .int (n : Int), rfl, _, rfl, c, _, rfl, SqL.of hc2, fun p1 n1 => ⟨by decide, fun p2 n2 => ?_⟩⟩
        rw [cut_to hn] at n2 ⊢
        have t1 := same_upd (o := .lst ((acc.map V.ref).take n)) n1
        have t2 := same_upd (o := .lst [V.ref t]) n2
        refine ⟨p1, p2, _, _, rfl, rfl, t2 _ _ upd_same, upd_same, ?_, fun p3 n3 => ?_⟩
        · rw [List.length_take, List.length_map, List.length_singleton]
          have := small1000 (n := 1000) (by omega)
          omega
        have t3 := same_upd (o := .lst ((acc.map V.ref).take n ++ [V.ref t])) n3
        have hc5 := t3 _ _ (t2 _ _ (t1 _ _ hc2))
        refine ⟨.ref c, rfl, .int (n : Int), rfl, _, rfl, c, _, rfl, SqL.of hc5, fun p4 n4 => ?_⟩
        rw [cut_from hn]
        have t4 := same_upd (o := .lst ((acc.map V.ref).drop n)) n4
        refine ⟨p3, p4, _, _, rfl, rfl, t4 _ _ upd_same, upd_same, ?_, fun p5 n5 => ?_⟩
        · rw [List.length_append, List.length_take, List.length_drop, List.length_map, List.length_singleton]
          have := small1000 (n := 1000) (by omega)
          have : sizeLine = 16777216 := sizeLine_eq
          omega
        have t14 := t1.trans (t2.trans (t3.trans t4))
        exact ⟨p5, ⟨_, _, _, rfl⟩, (s2.trans t14).trans (same_upd n5), s2.free (t14.free n5), upd_same⟩
    · rintro σ H1 ⟨c, v2, v3, v4, rfl, sm, nc, hc⟩
      walk_at "rd"
      rw [List.length_map, List.take_length] at hc
      exact q H1 c sm nc hc
def spOrderedT (K : PySem.W.Frag) : Sp := fun vs H Q _ => ∃ (a : Addr) (ts : List Addr) (key : Addr → Int × Int), vs = [.ref a] ∧ SqL K H a (ts.map V.ref) ∧ ts.length ≤ 1000 ∧ (∀ t ∈ ts, H t = some (.tup [.int (key t).1, .int (key t).2])) ∧
  ∀ H' l, Same H H' → H l = none → H' l = some (.lst ((ordA (fun s t => ltP (key s) (key t)) ts).map V.ref)) → Q (.ref l) H'
theorem ok_orderedT {f : Addr} {fd : FuncData} (F : Fun K "_law_ordered" "_law_ordered" s_law_ordered f fd) (T : Tx K mg cT) (R : TkR P w K mg base cT cIT cIN) : FnOk P w K mg base CX0 6 f fd ["things"] (spOrderedT K) := by
  refine F.ok sc_law_ordered (fun vs H Q E h => ?_) (fun cdv A outer s H vs Q E hr h => ?_)
  · obtain ⟨a, ts, key, rfl, _⟩ := h
    rfl
  · obtain ⟨a, ts, key, rfl, hS, hl, hk, q⟩ := h
    have hu := hu_of hr
    refine ⟨_, (pss_cons (ps_set (i := 1) sc_law_ordered.nd rfl (.inl rfl) (pe_lst pa_nil))
      (pss_cons (ps_for PassesOwn.never rfl (pi_list (pv 0)) (pg_name (i := 2) sc_law_ordered.nd rfl (.inr rfl)) (pss_cons (ps_set (i := 3) sc_law_ordered.nd rfl (.inl rfl) (pe_callB call_len_seq (by rfl) T.len PySem.boot_len (pa_cons (pe_lc (own := [("far", 4)]) rfl sc_law_ordered.nd (pi_list (pv 1)) (blkOk_by (own := [("far", 4)]) (N := ["things", "found", "one", "at", "far"]) (sc := defScope s_law_ordered) (by decide +kernel)) (fun _ _ _ _ _ => (pg_name (i := 4) sc_law_ordered.nd rfl (Or.inl rfl))) (fun _ _ _ _ _ => (pts_one (pt_not (pt_cmpR (show OpR _ _ (rLtP K) from op_ltP hu) (pv 2) (pv 4) (nomark _))))) (fun _ _ _ _ _ => (pv 4))) pa_nil)))
      (pss_one (ps_set (i := 1) sc_law_ordered.nd rfl (.inl rfl) (pe_op op_cat (pe_op op_cat (pe_slice sl_list (pv 1) po_none (po_some (pv 3))) (pe_lst (pa_cons (pv 2) pa_nil))) (pe_slice sl_list (pv 1) (po_some (pv 3)) po_none))))))
      (pss_one (ps_ret (pv 1))))), ?_⟩
    walk_at "rd"
    refine ⟨Nat.zero_le _, fun p np => ?_⟩
    refine ⟨_, rfl, a, rfl, ⟨_, (same_upd np).seq hS⟩, for_list (xs := ts.map V.ref) (fun i σ H' => ∃ (c : Addr) (v2 v3 v4 : Option V), σ = [some (.ref a), some (.ref c), v2, v3, v4] ∧ Same H H' ∧ H c = none ∧ H' c = some (.lst (((ts.take i).foldl (ordS fun s t => ltP (key s) (key t)) []).map V.ref)))
      ⟨p, _, _, _, rfl, same_upd np, np, upd_same⟩ (fun i σ H' _ ⟨_, _, _, _, _, sm, _⟩ => sm.seq hS) ?_ ?_⟩
    · rintro i x σ H1 hx ⟨c, v2, v3, v4, rfl, sm, nc, hc⟩
      obtain ⟨t, ht, rfl⟩ : ∃ t, ts[i]? = some t ∧ x = V.ref t := by
        rw [List.getElem?_map] at hx
        cases e9 : ts[i]? with
        | none => rw [e9] at hx; cases hx
        | some z => rw [e9] at hx; exact ⟨z, rfl, (Option.some.inj hx).symm⟩
      rw [fold_step _ ht]
      have hlen := fold_len (fun s t => ltP (key s) (key t)) (ts.take i) []
      have hmem : ∀ b ∈ (ts.take i).foldl (ordS fun s t => ltP (key s) (key t)) [], b ∈ ts := fun b hb => by
        rcases fold_mem hb with h | h
        · cases h
        · exact List.mem_of_mem_take h
      generalize (ts.take i).foldl (ordS fun s t => ltP (key s) (key t)) [] = acc at hc hlen hmem ⊢
      have hal : acc.length ≤ 1000 := by
        rw [hlen, List.length_take]
        simp only [List.length_nil]
        omega
      have ht' : t ∈ ts := List.mem_of_getElem? ht
      walk_at "rd"
      refine ⟨_, rfl, c, rfl, ⟨_, SqL.of hc⟩, fun D nD => lc_list (xs := acc.map V.ref) (fun j H' => Same H1 H' ∧ H' D = some (.lst (((acc.take j).filter fun far => !ltP (key t) (key far)).map V.ref)))
        ⟨same_upd nD, upd_same⟩ (fun j H' _ ⟨s1, _⟩ => SqL.of (s1 _ _ hc)) (fun j y H2 hy ⟨s1, hD⟩ => ?_) (fun H2 ⟨s1, hD⟩ => ?_)⟩
      · obtain ⟨far, hf, rfl⟩ : ∃ far, acc[j]? = some far ∧ y = V.ref far := by
          rw [List.getElem?_map] at hy
          cases e9 : acc[j]? with
          | none => rw [e9] at hy; cases hy
          | some z => rw [e9] at hy; exact ⟨z, rfl, (Option.some.inj hy).symm⟩
        have hj : j < acc.length := (List.getElem?_eq_some_iff.mp hf).1
        have tk1 := (sm.trans s1) _ _ (hk t ht')
        have tk2 := (sm.trans s1) _ _ (hk far (hmem far (List.mem_of_getElem? hf)))
        rw [List.take_add_one, hf, List.filter_append, List.map_append]
        walk_at "rd"
        refine ⟨t, far, _, _, _, _, rfl, rfl, SqT.of tk1, SqT.of tk2, _, rfl, ?_⟩
        have s3 : Same H2 H2 := Same.refl H2
        have lf := List.length_filter_le (fun far => !ltP (key t) (key far)) (acc.take j)
        rw [List.length_take] at lf
        have one : (([far] : List Addr).filter fun far => !ltP (key t) (key far)) = if ltP (key t) (key far) then [] else [far] := by
          cases z : ltP (key t) (key far) with
          | true => rw [List.filter_cons_of_neg (by simp [z])]; rfl
          | false => rw [List.filter_cons_of_pos (by simp [z])]; rfl
        show if (!ltP (key t) (key far)) = true then _ else _
        have opt : (some far : Option Addr).toList = [far] := rfl
        rw [opt, one]
        cases z : ltP (key t) (key far) with
        | true =>
          refine iteF ⟨s1.trans s3, ?_⟩
          rw [if_pos rfl, List.map_nil, List.append_nil]
          exact s3 _ _ hD
        | false =>
          refine iteT ⟨_, s3 _ _ hD, ?_, ?_, ?_⟩
          · rw [List.length_map]
            exact small1000 (by omega)
          · intro b o eb
            rw [upd_ne (ne_of_none eb nD)]
            exact s3 _ _ (s1 _ _ eb)
          · rw [upd_same, if_neg (by decide)]
            rfl
      · walk_at "rd"
        rw [List.length_map, List.take_length] at hD
        have lf := List.length_filter_le (fun far => !ltP (key t) (key far)) acc
        refine ⟨D, rfl, _, .inl (SqL.of hD), ?_⟩
        rw [List.length_map]
        have hn : (acc.filter fun far => !ltP (key t) (key far)).length ≤ (acc.map V.ref).length := by rw [List.length_map]; exact lf
        have eO : (ordS (fun s t => ltP (key s) (key t)) acc t).map V.ref = ((acc.map V.ref).take (acc.filter fun far => !ltP (key t) (key far)).length ++ [V.ref t]) ++ (acc.map V.ref).drop (acc.filter fun far => !ltP (key t) (key far)).length := by
          unfold ordS
          rw [List.map_append, List.map_append, List.map_take, List.map_drop]
          rfl
        rw [eO]
        generalize (acc.filter fun far => !ltP (key t) (key far)).length = n at hn ⊢
        have s2 := sm.trans s1
        have hc2 := s1 _ _ hc
        refine ⟨.ref c, rfl, .int (n : Int), rfl, _, rfl, c, _, rfl, SqL.of hc2, fun p1 n1 => ⟨by decide, fun p2 n2 => ?_⟩⟩
        rw [cut_to hn] at n2 ⊢
        have t1 := same_upd (o := .lst ((acc.map V.ref).take n)) n1
        have t2 := same_upd (o := .lst [V.ref t]) n2
        refine ⟨p1, p2, _, _, rfl, rfl, t2 _ _ upd_same, upd_same, ?_, fun p3 n3 => ?_⟩
        · rw [List.length_take, List.length_map, List.length_singleton]
          have := small1000 (n := 1000) (by omega)
          omega
        have t3 := same_upd (o := .lst ((acc.map V.ref).take n ++ [V.ref t])) n3
        have hc5 := t3 _ _ (t2 _ _ (t1 _ _ hc2))
        refine ⟨.ref c, rfl, .int (n : Int), rfl, _, rfl, c, _, rfl, SqL.of hc5, fun p4 n4 => ?_⟩
        rw [cut_from hn]
        have t4 := same_upd (o := .lst ((acc.map V.ref).drop n)) n4
        refine ⟨p3, p4, _, _, rfl, rfl, t4 _ _ upd_same, upd_same, ?_, fun p5 n5 => ?_⟩
        · rw [List.length_append, List.length_take, List.length_drop, List.length_map, List.length_singleton]
          have := small1000 (n := 1000) (by omega)
          have : sizeLine = 16777216 := sizeLine_eq
          omega
        have t14 := t1.trans (t2.trans (t3.trans t4))
        exact ⟨p5, ⟨_, _, _, rfl⟩, (s2.trans t14).trans (same_upd n5), s2.free (t14.free n5), upd_same⟩
    · rintro σ H1 ⟨c, v2, v3, v4, rfl, sm, nc, hc⟩
      walk_at "rd"
      rw [List.length_map, List.take_length] at hc
      exact q H1 c sm nc hc
end
end CT
/-! part HL3 -/
set_option Elab.async false
set_option linter.all false
set_option maxRecDepth 100000
set_option maxHeartbeats 4000000
namespace CT
open PySem PySem.Spec PyProof.Rows L2
local macro_rules | `(tactic| walk_at "rd") => `(tactic| (try simp only [tSeq, tAsg, tOp, rI0, rI, tC, tVar, gName, tRet, tRetN, tIfS, tIf, tTest, tB, tAnd, tOr, tNot, tAndV, tOrV, tNotV, tCons, tNil, tCall, tCB, tDrop, tNext, rEq, rNe, L2.start, List.length_cons, List.length_nil, List.map_cons, List.map_nil, List.cons_append, List.nil_append, List.append_nil, List.append_eq, List.replicate, List.set_cons_zero, List.set_cons_succ, List.getElem?_cons_zero, List.getElem?_cons_succ, Option.some.injEq, V.int.injEq, V.str.injEq, V.ref.injEq, V.bl.injEq, exists_eq_left', exists_eq_left, exists_and_left, exists_and_right, exists_eq', exists_eq, Nat.reduceSub, Nat.reduceAdd, true_and, and_true, CMul, CDiv, CDivN, cxOf, Cx.nox, Cx.wish, iRng1, iRng2, iEnum, iList, iTup, gTup, gCons, gNil, gSub, rSetL, rIxL, rIxT, wipe, tYes, ↓reduceIte, if_true, tDGet, rNeD, rEqD, tLst, tTup, sDPut, StX.tMakeR, tMakeS, tProp, tMeth, ClX.tCVal, tFld, sFld, tNever, rIsi, tMk1, rCmp, rIn, rItem, tMakeK, tXk, tPairs, tDisp, tCon, tPar, tDNewK]))
section
variable {P : Program} {w : World} {K : PySem.W.Frag} {mg : Str → Option Value} {base : Heap} {cT cIT cIN : Addr}
abbrev s_law_inside_right : Stmt := topS 22
theorem sc_law_inside_right : FnScope ["near", "far", "one", "at", "due", "odds", "odd"] ["near", "far", "one"] (defScope s_law_inside_right) := ⟨rfl, rfl, rfl, by decide +kernel, rfl, by decide +kernel, by decide +kernel⟩
def spInside (cT : Addr) : Sp := fun vs H Q _ => ∃ (p : Addr) (x y : Int), vs = [.int x, .int y, .ref p] ∧ TkAt cT H p x y ∧ isH x ∧ isH y ∧ ∀ H', Same H H' → Q (.bl true) H'
theorem in_due {x y i : Int} : inTk x y (.int i) = if x ≤ y then (decide (x ≤ i) && decide (i ≤ y)) else (decide (y ≤ i) && decide (i ≤ x)) := by
  show ((decide (x ≤ i) && decide (i ≤ y)) || (decide (y ≤ i) && decide (i ≤ x))) = _
  by_cases h : x ≤ y
  · rw [if_pos h]
    by_cases h1 : x ≤ i <;> by_cases h2 : i ≤ y <;> by_cases h3 : y ≤ i <;> by_cases h4 : i ≤ x <;> simp [h1, h2, h3, h4] <;> omega
  · rw [if_neg h]
    by_cases h1 : x ≤ i <;> by_cases h2 : i ≤ y <;> by_cases h3 : y ≤ i <;> by_cases h4 : i ≤ x <;> simp [h1, h2, h3, h4] <;> omega
theorem due_if {x y i : Int} {σ : L2.St} {H : Hp} {Q : VK} (h0 : σ[0]? = some (some (.int x))) (h1 : σ[1]? = some (some (.int y))) (h3 : σ[3]? = some (some (.int i))) (q : Q (.bl (inTk x y (.int i))) H) :
    if decide (x ≤ y) = true then tChain (rI0 fun i j => V.bl (decide (i ≤ j))) (rI0 fun i j => V.bl (decide (i ≤ j))) (tVar 0) (tVar 3) (tVar 1) σ H Q
    else tChain (rI0 fun i j => V.bl (decide (i ≤ j))) (rI0 fun i j => V.bl (decide (i ≤ j))) (tVar 1) (tVar 3) (tVar 0) σ H Q := by
  rw [in_due] at q
  refine ite2 (fun h => ?_) (fun h => ?_)
  · rw [if_pos (of_decide_eq_true h)] at q
    exact ch_le (fun Q' z => ⟨_, h0, z⟩) (fun Q' z => ⟨_, h3, z⟩) (fun Q' z => ⟨_, h1, z⟩) q
  · rw [if_neg (fun z => h (decide_eq_true z))] at q
    exact ch_le (fun Q' z => ⟨_, h1, z⟩) (fun Q' z => ⟨_, h3, z⟩) (fun Q' z => ⟨_, h0, z⟩) q
/-- no whole number between 0 and 30 -/
def noH : V → Prop
  | .int i => 30 < i ∨ i < 0
  | _ => True
theorem noH_in {x y : Int} (hx : isH x) (hy : isH y) {o : V} (h : noH o) : inTk x y o = false := by
  cases o with
  | int i =>
    have h : 30 < i ∨ i < 0 := h
    unfold isH at hx hy
    show ((decide (x ≤ i) && decide (i ≤ y)) || (decide (y ≤ i) && decide (i ≤ x))) = false
    by_cases h1 : x ≤ i <;> by_cases h2 : i ≤ y <;> by_cases h3 : y ≤ i <;> by_cases h4 : i ≤ x <;> simp [h1, h2, h3, h4] <;> omega
  | non => rfl
  | bl _ => rfl
  | str _ => rfl
  | byt _ => rfl
  | flt _ => rfl
  | ref _ => rfl
  | ty _ => rfl
theorem ok_inside {f : Addr} {fd : FuncData} (F : Fun K "_law_inside_right" "_law_inside_right" s_law_inside_right f fd) (T : Tx K mg cT) (R : TkR P w K mg base cT cIT cIN) (c_law_doubled : Cl P w K mg base 1 "_law_doubled" spDoubled) :
    GnOk P w K mg base CX0 6 f fd ["near", "far", "one"] (spInside cT) := by
  refine okG F sc_law_inside_right (fun vs H Q E h => ?_) (fun cdv A outer s H vs Q E hr hgd h => ?_)
  · obtain ⟨p, x, y, rfl, _⟩ := h
    rfl
  · obtain ⟨p, x, y, rfl, tk, hx, hy, k⟩ := h
    have hu := hu_of hr
    refine ⟨_, (pss_cons (ps_for PassesOwn.never rfl (pi_range2 (by rfl) T.range (pa_cons (pe_op op_sub pe_int pe_int) (pa_cons pe_int pa_nil))) (pg_name (i := 3) sc_law_inside_right.nd rfl (.inl rfl)) (pss_cons (ps_set (i := 4) sc_law_inside_right.nd rfl (.inl rfl) (pe_ifExp (pt_cmpR op_le (pv 0) (pv 1) (nomark _)) (pe_chain op_le op_le (pv 0) (pv 3) (pv 1)) (pe_chain op_le op_le (pv 1) (pv 3) (pv 0))))
      (pss_one (ps_if (pt_cmpR op_ne (pe_callB (call_repr_l hgd hr) (by rfl) R.m_repr (by decide +kernel) (pa_cons (pe_lst (pa_cons (pe_cmpR (op_in R.has (hr.mono (by decide)) pass0) (pv 3) (pv 2) (by with_unfolding_all rfl)) (pa_cons (pe_cmpR (op_notIn R.has (hr.mono (by decide)) pass0) (pv 3) (pv 2) (by with_unfolding_all rfl)) pa_nil))) pa_nil)) (pe_callB (call_repr_l hgd hr) (by rfl) R.m_repr (by decide +kernel) (pa_cons (pe_lst (pa_cons (pv 4) (pa_cons (pe_not (pv 4)) pa_nil))) pa_nil)) (nomark _)) (pss_one (ps_ret pe_bl)) pss_nil))))
      (pss_cons (ps_set (i := 5) sc_law_inside_right.nd rfl (.inl rfl) (pe_lst (pa_cons pe_non (pa_cons pe_bl (pa_cons pe_bl (pa_cons pe_str (pa_cons (pe_tup (pa_cons (pv 0) pa_nil)) (pa_cons (pe_lst (pa_cons (pv 0) pa_nil)) (pa_cons pe_dnewK (pa_cons (pe_op op_pow pe_int pe_int) (pa_cons (pe_tup (pa_cons (pv 0) (pa_cons (pv 1) pa_nil))) (pa_cons (pe_callTy call_str_int (by rfl) R.m_str (by decide +kernel) (pa_cons (pv 0) pa_nil)) (pa_cons (pe_cl c_law_doubled hr (by decide) (by rfl) (pa_cons pe_int pa_nil)) pa_nil)))))))))))))
      (pss_cons (ps_expr (pe_bm PySem.F.plainAttrs_list PySem.F.slot_list_append PySem.F.type_list_append mt_append (pv 5) (pa_cons (pe_cl c_law_doubled hr (by decide) (by rfl) (pa_cons pe_int pa_nil)) pa_nil)))
      (pss_one (ps_ret (pe_cmpR (op_eqD hr.units) (pe_lc (own := [("odd", 6)]) rfl sc_law_inside_right.nd (pi_list (pv 5)) (blkOk_by (own := [("odd", 6)]) (N := ["near", "far", "one", "at", "due", "odds", "odd"]) (sc := defScope s_law_inside_right) (by decide +kernel)) (fun _ _ _ _ _ => (pg_name (i := 6) sc_law_inside_right.nd rfl (Or.inl rfl))) (fun _ _ _ _ _ => (pts_one (pt_cmpR op_isnot_bl (pe_cmpR (show OpR _ _ (rIn false cT (spTkIn K cT) E0) from op_in R.has (hr.mono (by decide)) pass0) (pv 6) (pv 2) (by with_unfolding_all rfl)) pe_bl (nomark _)))) (fun _ _ _ _ _ => pe_int)) (pe_lst pa_nil) (nomark _))))))), ?_⟩
    walk_at "rd"
    refine ⟨0, 3, rfl, rfl, 0 - 3, 35, rfl, by decide, for_range (lo := 0 - 3) (n := 38) (fun i σ H' => ∃ v3 v4 : Option V, σ = [some (.int x), some (.int y), some (.ref p), v3, v4, none, none] ∧ Same H H') ⟨_, _, rfl, Same.refl H⟩ ?_ ?_⟩
    · rintro i σ H1 hi ⟨v3, v4, rfl, sm⟩
      obtain ⟨dx, e⟩ := tk.same sm
      have tk1 := tk.same sm
      walk_at "rd"
      refine due_if rfl rfl rfl ?_
      generalize hat : (0 - 3 + (i : Int)) = at'
      walk_at "rd"
      refine ⟨⟨_, _, e⟩, p, x, y, _, rfl, tk1, kn_int _, ⟨_, rfl, ?_⟩⟩
      refine ⟨⟨_, _, e⟩, p, x, y, _, rfl, tk1, kn_int _, ⟨_, rfl, ?_⟩⟩
      refine ⟨by decide, fun l1 m1 => ?_⟩
      simp only [Bool.false_xor, Bool.true_xor] at *
      refine rep_bools (bs := [inTk x y (.int at'), !inTk x y (.int at')]) upd_same (by show 2 ≤ 1000; decide) ?_
      walk_at "rd"
      refine ⟨by decide, fun l2 m2 => ?_⟩
      refine rep_bools (bs := [inTk x y (.int at'), !inTk x y (.int at')]) upd_same (by show 2 ≤ 1000; decide) ⟨rfl, ?_⟩
      exact iteNS rfl ⟨⟨_, _, rfl⟩, sm.trans ((same_upd m1).trans (same_upd m2))⟩
    · rintro σ H1 ⟨v3, v4, rfl, sm⟩
      walk_at "rd"
      refine ⟨by decide, fun t1 n1 => ⟨by decide, fun l1 n2 d1 n3 => ⟨⟨by decide, by decide, by decide⟩, by decide, fun t2 n4 => ⟨x, rfl, ?_, 0, rfl, .inl rfl, fun H2 r1 sm1 nr1 er1 => ⟨by decide, fun lo n5 => ?_⟩⟩⟩⟩⟩
      · unfold isH at hx
        by_cases z : x.natAbs = 0
        · rw [z]; decide
        · exact (Nat.log2_lt z).mpr (Nat.lt_of_le_of_lt (show x.natAbs ≤ 30 by omega) (by decide +kernel))
      refine ⟨.ref lo, rfl, .inl ⟨rfl, _, SqL.of upd_same⟩, 1, rfl, .inr rfl, fun H3 r2 sm2 nr2 er2 => ⟨lo, _, .ref r2, rfl, rfl, sm2 _ _ upd_same, by show 11 < sizeLine; decide, ?_⟩⟩
      have keep : ∀ b o, H2 b = some o → (upd H3 lo (.lst ([V.non, V.bl true, V.bl false, V.str "0", V.ref t1, V.ref l1, V.ref d1, V.int (10 ^ Int.toNat 30), V.ref t2, V.str (Str.ofString (toString x)), V.ref r1] ++ [V.ref r2]))) b = some o := fun b o e => by
        rw [upd_ne (ne_of_none e n5)]
        exact sm2 _ _ (same_upd n5 _ _ e)
      have q1 := same_upd (o := .tup [.int x]) n1
      have q2 := same_upd (o := .lst [.int x]) n2
      have q3 := same_upd (o := .dK []) n3
      have q4 := same_upd (o := .tup [.int x, .int y]) n4
      have nlo : r2 ≠ lo := fun z => by
        rw [z, upd_same] at nr2
        cases nr2
      have smA : Same H (upd H3 lo (.lst ([V.non, V.bl true, V.bl false, V.str "0", V.ref t1, V.ref l1, V.ref d1, V.int (10 ^ Int.toNat 30), V.ref t2, V.str (Str.ofString (toString x)), V.ref r1] ++ [V.ref r2]))) := fun b o e => keep _ _ (sm1 _ _ (q4 _ _ (q3 _ _ (q2 _ _ (q1 _ _ (sm _ _ e))))))
      have e1 := keep _ _ (sm1 _ _ (q4 _ _ (q3 _ _ (q2 _ _ upd_same))))
      have e2 := keep _ _ (sm1 _ _ (q4 _ _ (q3 _ _ upd_same)))
      have e3 := keep _ _ (sm1 _ _ (q4 _ _ upd_same))
      have e4 := keep _ _ (sm1 _ _ upd_same)
      have e5 : (∃ xs, (upd H3 lo (.lst ([V.non, V.bl true, V.bl false, V.str "0", V.ref t1, V.ref l1, V.ref d1, V.int (10 ^ Int.toNat 30), V.ref t2, V.str (Str.ofString (toString x)), V.ref r1] ++ [V.ref r2]))) r1 = some (.tup xs)) ∨ ∃ xs, (upd H3 lo (.lst ([V.non, V.bl true, V.bl false, V.str "0", V.ref t1, V.ref l1, V.ref d1, V.int (10 ^ Int.toNat 30), V.ref t2, V.str (Str.ofString (toString x)), V.ref r1] ++ [V.ref r2]))) r1 = some (.lst xs) := er1.imp (fun ⟨xs, z⟩ => ⟨xs, keep _ _ z⟩) fun ⟨xs, z⟩ => ⟨xs, keep _ _ z⟩
      have e6 : (∃ xs, (upd H3 lo (.lst ([V.non, V.bl true, V.bl false, V.str "0", V.ref t1, V.ref l1, V.ref d1, V.int (10 ^ Int.toNat 30), V.ref t2, V.str (Str.ofString (toString x)), V.ref r1] ++ [V.ref r2]))) r2 = some (.tup xs)) ∨ ∃ xs, (upd H3 lo (.lst ([V.non, V.bl true, V.bl false, V.str "0", V.ref t1, V.ref l1, V.ref d1, V.int (10 ^ Int.toNat 30), V.ref t2, V.str (Str.ofString (toString x)), V.ref r1] ++ [V.ref r2]))) r2 = some (.lst xs) := er2.imp (fun ⟨xs, z⟩ => ⟨xs, by rw [upd_ne nlo]; exact z⟩) fun ⟨xs, z⟩ => ⟨xs, by rw [upd_ne nlo]; exact z⟩
      have el : (upd H3 lo (.lst ([V.non, V.bl true, V.bl false, V.str "0", V.ref t1, V.ref l1, V.ref d1, V.int (10 ^ Int.toNat 30), V.ref t2, V.str (Str.ofString (toString x)), V.ref r1] ++ [V.ref r2]))) lo = some (.lst [V.non, V.bl true, V.bl false, V.str "0", V.ref t1, V.ref l1, V.ref d1, V.int (10 ^ Int.toNat 30), V.ref t2, V.str (Str.ofString (toString x)), V.ref r1, V.ref r2]) := upd_same
      generalize upd H3 lo (.lst ([V.non, V.bl true, V.bl false, V.str "0", V.ref t1, V.ref l1, V.ref d1, V.int (10 ^ Int.toNat 30), V.ref t2, V.str (Str.ofString (toString x)), V.ref r1] ++ [V.ref r2])) = H4 at smA e1 e2 e3 e4 e5 e6 el ⊢
      have all : ∀ o ∈ [V.non, V.bl true, V.bl false, V.str "0", V.ref t1, V.ref l1, V.ref d1, V.int (10 ^ Int.toNat 30), V.ref t2, V.str (Str.ofString (toString x)), V.ref r1, V.ref r2], noH o ∧ An K H4 o := by
        intro o ho
        simp only [List.mem_cons, List.not_mem_nil, or_false] at ho
        rcases ho with rfl | rfl | rfl | rfl | rfl | rfl | rfl | rfl | rfl | rfl | rfl | rfl
        · exact ⟨trivial, an_non⟩
        · exact ⟨trivial, an_bl _⟩
        · exact ⟨trivial, an_bl _⟩
        · exact ⟨trivial, an_str _⟩
        · exact ⟨trivial, an_tup e1⟩
        · exact ⟨trivial, an_lst e2⟩
        · exact ⟨trivial, an_dK e3⟩
        · exact ⟨.inl (by decide), an_int _⟩
        · exact ⟨trivial, an_tup e4⟩
        · exact ⟨trivial, an_str _⟩
        · exact ⟨trivial, e5.elim (fun ⟨_, z⟩ => an_tup z) fun ⟨_, z⟩ => an_lst z⟩
        · exact ⟨trivial, e6.elim (fun ⟨_, z⟩ => an_tup z) fun ⟨_, z⟩ => an_lst z⟩
      generalize hxs : [V.non, V.bl true, V.bl false, V.str "0", V.ref t1, V.ref l1, V.ref d1, V.int (10 ^ Int.toNat 30), V.ref t2, V.str (Str.ofString (toString x)), V.ref r1, V.ref r2] = xs at all el
      refine ⟨.ref lo, rfl, lo, rfl, ⟨_, SqL.of el⟩, fun D nD => lc_list (xs := xs) (fun j H' => Same H4 H' ∧ H' D = some (.lst [])) ⟨same_upd nD, upd_same⟩ (fun j H' _ ⟨s1, _⟩ => SqL.of (s1 _ _ el)) (fun j o H5 ho ⟨s1, hD⟩ => ?_) (fun H5 ⟨s1, hD⟩ => ?_)⟩
      · obtain ⟨a1, a2⟩ := all o (List.mem_of_getElem? ho)
        have tk5 := tk.same (smA.trans s1)
        obtain ⟨dx, e⟩ := id tk5
        walk_at "rd"
        refine ⟨⟨_, _, e⟩, p, x, y, o, rfl, tk5, (a2.ex (Ex.of_same s1)).kn, _, rfl, ?_⟩
        rw [noH_in hx hy a1]
        exact iteF ⟨s1, hD⟩
      · walk_at "rd"
        refine ⟨Nat.zero_le _, fun l9 m9 => ?_⟩
        have s9 := same_upd (o := .lst []) m9
        refine ⟨.list [], dp_nil (SqL.of (s9 _ _ hD)), .list [], dp_nil (SqL.of upd_same), shaped_nil, shaped_nil, ?_⟩
        have ev : PyData.eqv (.list []) (.list []) = true := by decide +kernel
        rw [ev]
        exact k _ ((smA.trans s1).trans s9)
end
end CT
/-! part HL4 -/
set_option Elab.async false
set_option linter.all false
set_option maxRecDepth 100000
set_option maxHeartbeats 4000000
namespace CT
open PySem PySem.Spec PyProof.Rows L2
local macro_rules | `(tactic| walk_at "rd") => `(tactic| (try simp only [tSeq, tAsg, tOp, rI0, rI, tC, tVar, gName, tRet, tRetN, tIfS, tIf, tTest, tB, tAnd, tOr, tNot, tAndV, tOrV, tNotV, tCons, tNil, tCall, tCB, tDrop, tNext, rEq, rNe, L2.start, List.length_cons, List.length_nil, List.map_cons, List.map_nil, List.cons_append, List.nil_append, List.append_nil, List.append_eq, List.replicate, List.set_cons_zero, List.set_cons_succ, List.getElem?_cons_zero, List.getElem?_cons_succ, Option.some.injEq, V.int.injEq, V.str.injEq, V.ref.injEq, V.bl.injEq, exists_eq_left', exists_eq_left, exists_and_left, exists_and_right, exists_eq', exists_eq, Nat.reduceSub, Nat.reduceAdd, true_and, and_true, CMul, CDiv, CDivN, cxOf, Cx.nox, Cx.wish, iRng1, iRng2, iEnum, iList, iTup, gTup, gCons, gNil, gSub, rSetL, rIxL, rIxT, wipe, tYes, ↓reduceIte, if_true, tDGet, rNeD, rEqD, tLst, tTup, sDPut, StX.tMakeR, tMakeS, tProp, tMeth, ClX.tCVal, tFld, sFld, tNever, rIsi, tMk1, rCmp, rIn, rItem, tMakeK, tXk, tPairs, tDisp, tCon, tPar, tDNewK]))
section
variable {P : Program} {w : World} {K : PySem.W.Frag} {mg : Str → Option Value} {base : Heap} {cT cIT cIN : Addr}
def spRefused (cT : Addr) (T : List (Addr × Str)) : Sp := fun vs H Q _ => ∃ (p : Addr) (x y : Int), vs = [.int x, .ref p] ∧ TkAt cT H p x y ∧ isH x ∧ isH y ∧ LamX.Tabs T H ∧ ∀ H', Stay T H H' → Q (.bl true) H'
theorem TkAt.ex' {p : Addr} {x y : Int} {H H' : Hp} (h : TkAt cT H p x y) (e : Ex H H') : TkAt cT H' p x y := let ⟨dx, z⟩ := h; ⟨dx, ex_at e z⟩
theorem it_ways {o : V} {x y : Int} {H H1 : Hp} {T : List (Addr × Str)} {p : Addr} {Q : VK} (eN : Ex H H1) (T1 : LamX.Tabs T H1) (ao : An K H1 o) (tk : TkAt cT H1 p x y) (no : isP 2 o = false)
    (q : ∀ H' l, Stay T H H' → Fr0 H l → H' l = some (.lst [o]) → Q (.ref l) H') :
    spTkItem K cT cIN [.ref p, o] H1 (fun v H2 => ∀ H3 l, Same H2 H3 → H2 l = none → H3 l = some (.lst []) → Q (.ref l) H3)
      (fun cls d H2 => cls = .ref cIN ∧ ∃ (dd : Addr) (v : V), d = some dd ∧ H2 dd = some (.xd [("value", v)]) ∧ ∀ H3 l, Same H2 H3 → H2 l = none → H3 l = some (.lst [v]) → Q (.ref l) H3) := by
  have new : ∀ {H2 : Hp} {l : Addr}, Same H1 H2 → H2 l = none → Fr0 H l := fun {H2 l} sm e o z => by
    have e2 := sm.free e
    by_cases ht : ∃ ps, o = .tbl ps
    · exact ht
    · have := eN l o z (fun ps w => ht ⟨ps, w⟩)
      rw [e2] at this
      cases this
  refine ⟨p, x, y, o, rfl, tk, ao.kn, fun z => ?_, fun z => ?_, fun _ d nd => ⟨rfl, d, _, rfl, upd_same, fun H3 l sm nl e => ?_⟩⟩
  · rw [z] at no
    exact absurd no (by decide)
  · rw [z] at no
    exact absurd no (by decide)
  · have sA := (same_upd nd).trans sm
    exact q H3 l ⟨eN.trans (Ex.of_same sA), T1.ext sA⟩ (new (same_upd nd) nl) e
/-- a value that is no position of two, its repr known -/
structure Odd (K : PySem.W.Frag) (H : Hp) (o : V) : Prop where
  no : isP 2 o = false
  an : An K H o
  sh : ∃ d, (∀ H', Ex H H' → Sh K H' o d) ∧ leafOk d ∧ nodes d ≤ 100 ∧ d.depth ≤ 5
theorem Odd.ex {H H' : Hp} {o : V} (h : Odd K H o) (e : Ex H H') : Odd K H' o := ⟨h.no, h.an.ex e, let ⟨d, h1, h2⟩ := h.sh; ⟨d, fun H2 e2 => h1 H2 (e.trans e2), h2⟩⟩
theorem rep_one {H : Hp} {l : Addr} {o : V} {d : PyData} {Q : VK} (h : H l = some (.lst [o])) (sh : Sh K H o d) (lf : leafOk d) (hn : nodes d ≤ 100) (hd : d.depth ≤ 5) (q : Q (.str (PyData.list [d]).shown) H) : rRepr K [.ref l] H Q := by
  refine ⟨l, _, _, rfl, SqL.of h, .cons sh .nil, ?_, ?_, ?_, q⟩
  · simp only [leafOkAll, and_true]
    exact lf
  · simp only [nodesAll]
    omega
  · simp only [PyData.depthAll]
    omega
theorem sqL_ex {H H' : Hp} {a : Addr} {xs : List V} (h : SqL K H a xs) (e : Ex H H') : SqL K H' a xs := by
  rcases h with (h | ⟨o, h⟩) | h
  · exact .inl (.inl (ex_at e h))
  · exact .inl (.inr ⟨o, ex_at e h⟩)
  · exact .inr h
theorem tabs_put {T : List (Addr × Str)} {H : Hp} {a : Addr} {xs : List V} {o : HO} (t : LamX.Tabs T H) (h : H a = some (.lst xs)) : LamX.Tabs T (upd H a o) := by
  intro pq hpq
  obtain ⟨ps, h1, h2, h3⟩ := t pq hpq
  refine ⟨ps, by rw [upd_ne (fun z => by rw [z, h] at h1; cases h1)]; exact h1, h2, fun pos cv hc => ?_⟩
  obtain ⟨c0, a1, a2⟩ := h3 pos cv hc
  exact ⟨c0, a1, by rw [upd_ne (fun z => by rw [z, h] at a2; unfold LamX.CodeO at a2; cases a2)]; exact a2⟩
/-- a write at what was not tracked before -/
theorem ex_put {H H' : Hp} {a : Addr} {o : HO} (e : Ex H H') (n : H a = none) : Ex H (upd H' a o) := fun b u hb nt => by
  rw [upd_ne (ne_of_none hb n)]
  exact e b u hb nt
theorem ok_refused {f c P1 P2 : Addr} {fd : FuncData} (F : FunC K "_law_refused_right" "_law_refused_right" s_law_refused_right f fd c) (T : Tx K mg cT) (R : TkR P w K mg base cT cIT cIN) (AT : AnT K cT) (L : LamT P w K mg base cT cIT cIN) (TB : LamX.TabB base mg c P2) (hne : P1 ≠ P2)
    (c_law_doubled : Cl P w K mg base 1 "_law_doubled" spDoubled) : GnOk P w K mg base CX0 9 f fd ["near", "one"] (spRefused cT (tabs P1 P2)) := by
  refine okGC F.ex sc_law_refused_right (fun vs H Q E h => ?_) (fun A outer s H vs Q E hr hgd h => ?_)
  · obtain ⟨p, x, y, rfl, _⟩ := h
    rfl
  · obtain ⟨p, x, y, rfl, tk, hx, hy, tb, k⟩ := h
    have hu := hu_of hr
    have P_x := R.x
    have P_y := R.y
    obtain ⟨gV, fdV, FV, mV, bV⟩ := L.value
    have value : ∀ {i : Nat} {σ : L2.St} {Hc : Hp} {Q' : VK} {o : V}, σ[1]? = some (some (.ref p)) → σ[i]? = some (some o) → Ex H Hc → LamX.Tabs (tabs P1 P2) Hc → An K Hc o → isP 2 o = false → (∀ H' l, Stay (tabs P1 P2) Hc H' → Fr0 Hc l → H' l = some (.lst [o]) → Q' (.ref l) H') →
        LamX.tLam (tabs P1 P2) (TPart cIN "value") (fun E => tOp (rItem cT (spTkItem K cT cIN) E) (tVar 1) (tVar i)) σ Hc Q' := by
      intro i σ Hc Q' o h1 hi ex tc ao no q
      refine ⟨tc, fun H1 eN T1 => ?_⟩
      have tk1 := tk.ex' (ex.trans eN)
      obtain ⟨dx, e⟩ := id tk1
      exact ⟨.ref p, h1, o, hi, p, dx, _, rfl, e, it_ways eN T1 (ao.ex eN) tk1 no q⟩
    have value2 : ∀ {σ : L2.St} {Hc : Hp} {Q' : VK} {n : Int}, σ[1]? = some (some (.ref p)) → σ[6]? = some (some (.int n)) → (n = 0 ∨ n = 1) → Ex H Hc → LamX.Tabs (tabs P1 P2) Hc → (∀ H' l r, Stay (tabs P1 P2) Hc H' → Fr0 Hc l → H' l = some (.lst [.ref r]) → Q' (.ref l) H') →
        LamX.tLam (tabs P1 P2) (TPart cIN "value") (fun E => tOp (rItem cT (spTkItem K cT cIN) E) (tVar 1) (tCall spDoubled [] E0 (tCons (tVar 6) tNil))) σ Hc Q' := by
      intro σ Hc Q' n h1 h6 hn ex tc q
      refine ⟨tc, fun H7 eN T7 => ?_⟩
      refine ⟨.ref p, h1, .int n, h6, n, rfl, hn, fun H8 r sm8 nr er => ?_⟩
      have tk8 := tk.ex' (ex.trans (eN.trans (Ex.of_same sm8)))
      obtain ⟨dx, e⟩ := id tk8
      have ar : An K H8 (.ref r) := er.elim (fun ⟨_, z⟩ => an_tup z) fun ⟨_, z⟩ => an_lst z
      exact ⟨p, dx, _, rfl, e, it_ways (Q := Q') (eN.trans (Ex.of_same sm8)) (T7.ext sm8) ar tk8 rfl fun H9 l9 st9 f9 e9 => q H9 l9 r st9 f9 e9⟩
    refine ⟨_, (pss_cons (ps_set (i := 5) sc_law_refused_right.nd rfl (.inr rfl) (pe_lst (pa_cons pe_str pa_nil)))
      (pss_cons (ps_for PassesOwn.never rfl (pi_tup (pe_tup (pa_cons pe_int (pa_cons (pe_op op_sub pe_int pe_int) (pa_cons pe_non (pa_cons pe_bl (pa_cons pe_bl (pa_cons pe_str (pa_cons (pe_tup (pa_cons pe_int pa_nil)) (pa_cons (pe_lst (pa_cons pe_int pa_nil)) (pa_cons pe_dnewK (pa_cons (pe_op op_pow pe_int pe_int) (pa_cons (pe_tup pa_nil) (pa_cons (pe_op op_sub pe_int pe_int) pa_nil)))))))))))))) (pg_name (i := 4) sc_law_refused_right.nd rfl (.inr rfl)) (pss_one (ps_if (pt_cmpR op_ne (pe_callB (call_repr_l hgd hr) (by rfl) R.m_repr (by decide +kernel) (pa_cons (pe_taker (T := tabs P1 P2) FV mV (by rfl) bV sc_law_value rfl (.inl rfl) (fun _ => value_gives L.xIN) TB rfl tabs_m2 (tabs_u2 hne) (k := 5) (hr.mono (by decide)) (LamX.lamS_by (show LamX.lamSB (defScope s_law_refused_right) _ = true from by decide +kernel)) rfl (fun _ _ _ _ _ => rfl) (fun A outer s H E fL cL hL => pe_item L.item (hL.mono (by decide)) passX (pv 1) (pv 4) ⟨fun _ _ => rfl⟩)) pa_nil)) (pe_callB (call_repr_l hgd hr) (by rfl) R.m_repr (by decide +kernel) (pa_cons (pe_lst (pa_cons (pv 4) pa_nil)) pa_nil)) (nomark _)) (pss_one (ps_ret pe_bl)) pss_nil)))
      (pss_cons (ps_set (i := 2) sc_law_refused_right.nd rfl (.inl rfl) (pe_taker (T := tabs P1 P2) FV mV (by rfl) bV sc_law_value rfl (.inl rfl) (fun _ => value_gives L.xIN) TB rfl tabs_m2 (tabs_u2 hne) (k := 5) (hr.mono (by decide)) (LamX.lamS_by (show LamX.lamSB (defScope s_law_refused_right) _ = true from by decide +kernel)) rfl (fun _ _ _ _ _ => rfl) (fun A outer s H E fL cL hL => pe_item L.item (hL.mono (by decide)) passX (pv 1) (pv 5) ⟨fun _ _ => rfl⟩)))
      (pss_cons (ps_expr (pe_bm PySem.F.plainAttrs_list PySem.F.slot_list_append PySem.F.type_list_append mt_append (pv 5) (pa_cons pe_str pa_nil)))
      (pss_cons (ps_if (PW.pt (pw_or (pt_cmpR (op_neD hr.units) (pv 2) (pe_lst (pa_cons (pe_lst (pa_cons pe_str (pa_cons pe_str pa_nil))) pa_nil)) (nomark _)) (pw_or1 (pt_cmpR (op_neD hr.units) (pe_lc (own := [("n", 6)]) rfl sc_law_refused_right.nd (pi_range1 (by rfl) T.range (pa_cons pe_int pa_nil)) (blkOk_by (own := [("n", 6)]) (N := ["near", "one", "kept", "odds", "odd", "box", "n"]) (sc := defScope s_law_refused_right) (by decide +kernel)) (fun _ _ _ _ _ => (pg_name (i := 6) sc_law_refused_right.nd rfl (Or.inr rfl))) (fun _ _ _ _ _ => pts_nil) (fun _ _ _ _ _ => (pe_callB (show CallR _ _ (fun xs H Q => ∃ p ys, xs = [V.ref p] ∧ (SqL K H p ys ∨ SqT K H p ys) ∧ Q (V.int (ys.length : Nat)) H) from call_len_seq) (by rfl) T.len PySem.boot_len (pa_cons (show PE _ _ (LamX.tLam (tabs P1 P2) (TPart cIN "value") (fun E => tOp (rItem cT (spTkItem K cT cIN) E) (tVar 1) (tCall spDoubled [] E0 (tCons (tVar 6) tNil)))) from (pe_taker (T := tabs P1 P2) FV mV (by rfl) bV sc_law_value rfl (.inl rfl) (fun _ => value_gives L.xIN) TB rfl tabs_m2 (tabs_u2 hne) (k := 5) (hr.mono (by decide)) ⟨rfl, rfl, rfl, by decide +kernel, by intro y hy e; simp only [List.mem_cons, List.not_mem_nil, or_false] at hy; rcases hy with rfl | rfl | rfl <;> first | exact .inl rfl | cases e⟩ rfl (fun _ _ _ _ _ => rfl) (fun A outer s H E fL cL hL => pe_item L.item (hL.mono (by decide)) passX (pv 1) (pe_cl c_law_doubled hL (by decide) (by rfl) (pa_cons (pv 6) pa_nil)) ⟨fun _ _ => rfl⟩))) pa_nil)))) (pe_lst (pa_cons pe_int (pa_cons pe_int pa_nil))) (nomark _))))) (pss_one (ps_ret pe_bl)) pss_nil)
      (pss_cons (ps_set (i := 3) sc_law_refused_right.nd rfl (.inl rfl) (pe_lst (pa_cons pe_non (pa_cons (pv 0) (pa_cons (pe_tup (pa_cons (pe_pr (pv 1) P_x hr (by decide) rfl) (pa_cons (pe_pr (pv 1) P_y hr (by decide) rfl) pa_nil))) (pa_cons (pe_lst (pa_cons (pe_pr (pv 1) P_x hr (by decide) rfl) (pa_cons (pe_pr (pv 1) P_y hr (by decide) rfl) pa_nil))) (pa_cons pe_str (pa_cons pe_bl (pa_cons pe_dnewK (pa_cons (pe_tup (pa_cons (pv 1) pa_nil)) (pa_cons (pe_cl c_law_doubled hr (by decide) (by rfl) (pa_cons pe_int pa_nil)) (pa_cons (pe_cl c_law_doubled hr (by decide) (by rfl) (pa_cons pe_int pa_nil)) pa_nil))))))))))))
      (pss_one (ps_ret (pe_cmpR (op_eqD hr.units) (pe_lc (own := [("odd", 4)]) rfl sc_law_refused_right.nd (pi_list (pv 3)) (blkOk_by (own := [("odd", 4)]) (N := ["near", "one", "kept", "odds", "odd", "box", "n"]) (sc := defScope s_law_refused_right) (by decide +kernel)) (fun _ _ _ _ _ => (pg_name (i := 4) sc_law_refused_right.nd rfl (Or.inl rfl))) (fun _ _ _ _ _ => (pts_one (PW.pt (pw_or (pt_cmpR op_isnot_bl (pe_cmpR (show OpR _ _ (rCmp K cT (spTkEqX K cT) E0) from op_cmp (op := .Eq) R.eq rfl (hr.mono (by decide)) pass0) (pv 1) (pv 4) (nomark _)) pe_bl (nomark _)) (pw_or1 (pt_cmpR op_isnot_bl (pe_cmpR (show OpR _ _ (rNeO K cT (spTkEqX K cT) E0) from op_neO R.eq R.noNe (hr.mono (by decide)) pass0) (pv 1) (pv 4) (nomark _)) pe_bl (nomark _))))))) (fun _ _ _ _ _ => pe_int)) (pe_lst pa_nil) (nomark _)))))))))), ?_⟩
    walk_at "rd"
    refine ⟨by decide, fun bx nbx => ?_⟩
    have s0 := same_upd (o := .lst [.str "a"]) nbx
    refine ⟨0, 1, rfl, rfl, by decide, fun t0 n0 => ⟨by decide, fun l0 n1 d0 n2 => ⟨10, 30, rfl, rfl, ⟨by decide, by decide, by decide⟩, Nat.zero_le _, fun e0 n3 => ⟨0, 2, rfl, rfl, by show 12 ≤ sizeLine; decide, fun tp n4 => ?_⟩⟩⟩⟩
    have q1 := same_upd (o := .tup [.int 0]) n0
    have q2 := same_upd (o := .lst [.int 0]) n1
    have q3 := same_upd (o := .dK []) n2
    have q4 := same_upd (o := .tup []) n3
    have q5 := same_upd (o := .tup [V.int 2, V.int (0 - 1), V.non, V.bl true, V.bl false, V.str "0", V.ref t0, V.ref l0, V.ref d0, V.int (10 ^ Int.toNat 30), V.ref e0, V.int (0 - 2)]) n4
    have ex0 : Ex H _ := Ex.of_same (s0.trans (q1.trans (q2.trans (q3.trans (q4.trans q5)))))
    have sm0 := s0.trans (q1.trans (q2.trans (q3.trans (q4.trans q5))))
    have tb0 := tb.ext sm0
    have et := q5 _ _ (q4 _ _ (q3 _ _ (q2 _ _ upd_same)))
    have el := q5 _ _ (q4 _ _ (q3 _ _ upd_same))
    have ed := q5 _ _ (q4 _ _ upd_same)
    have ee := q5 _ _ upd_same
    have eb := q5 _ _ (q4 _ _ (q3 _ _ (q2 _ _ (q1 _ _ upd_same))))
    have ep : upd (upd (upd (upd (upd (upd H bx (.lst [.str "a"])) t0 (.tup [.int 0])) l0 (.lst [.int 0])) d0 (.dK [])) e0 (.tup [])) tp (.tup [V.int 2, V.int (0 - 1), V.non, V.bl true, V.bl false, V.str "0", V.ref t0, V.ref l0, V.ref d0, V.int (10 ^ Int.toNat 30), V.ref e0, V.int (0 - 2)]) tp = some (.tup [V.int 2, V.int (0 - 1), V.non, V.bl true, V.bl false, V.str "0", V.ref t0, V.ref l0, V.ref d0, V.int (10 ^ Int.toNat 30), V.ref e0, V.int (0 - 2)]) := upd_same
    refine ⟨tp, rfl, ⟨_, SqT.of ep⟩, ?_⟩
    generalize upd (upd (upd (upd (upd (upd H bx (.lst [.str "a"])) t0 (.tup [.int 0])) l0 (.lst [.int 0])) d0 (.dK [])) e0 (.tup [])) tp (.tup [V.int 2, V.int (0 - 1), V.non, V.bl true, V.bl false, V.str "0", V.ref t0, V.ref l0, V.ref d0, V.int (10 ^ Int.toNat 30), V.ref e0, V.int (0 - 2)]) = Hx at ex0 sm0 tb0 et el ed ee eb ep ⊢
    have odd : ∀ o ∈ [V.int 2, V.int (0 - 1), V.non, V.bl true, V.bl false, V.str "0", V.ref t0, V.ref l0, V.ref d0, V.int (10 ^ Int.toNat 30), V.ref e0, V.int (0 - 2)], Odd K Hx o := by
      intro o ho
      simp only [List.mem_cons, List.not_mem_nil, or_false] at ho
      rcases ho with rfl | rfl | rfl | rfl | rfl | rfl | rfl | rfl | rfl | rfl | rfl | rfl
      · exact ⟨by decide, an_int _, .int 2, fun H' e => .dp (.int _), by simp only [leafOk]; decide, by simp only [nodes]; decide, by simp only [PyData.depth]; decide⟩
      · exact ⟨by decide, an_int _, .int (0 - 1), fun H' e => .dp (.int _), by simp only [leafOk]; decide, by simp only [nodes]; decide, by simp only [PyData.depth]; decide⟩
      · exact ⟨rfl, an_non, .none, fun H' e => .dp .non, trivial, by simp only [nodes]; decide, by simp only [PyData.depth]; decide⟩
      · exact ⟨rfl, an_bl _, .bool true, fun H' e => .dp (.bl _), trivial, by simp only [nodes]; decide, by simp only [PyData.depth]; decide⟩
      · exact ⟨rfl, an_bl _, .bool false, fun H' e => .dp (.bl _), trivial, by simp only [nodes]; decide, by simp only [PyData.depth]; decide⟩
      · exact ⟨rfl, an_str _, .str "0", fun H' e => .dp (.str _), by simp only [leafOk]; decide +kernel, by simp only [nodes]; decide, by simp only [PyData.depth]; decide⟩
      · exact ⟨rfl, an_tup et, .tuple [.int 0], fun H' e => .dp (.tup (SqT.of (ex_at e et)) (.cons (.int 0) .nil)), by simp only [leafOk, leafOkAll]; decide, by simp only [nodes, nodesAll]; decide, by simp only [PyData.depth, PyData.depthAll]; decide⟩
      · exact ⟨rfl, an_lst el, .list [.int 0], fun H' e => .dp (.lst (SqL.of (ex_at e el)) (.cons (.int 0) .nil)), by simp only [leafOk, leafOkAll]; decide, by simp only [nodes, nodesAll]; decide, by simp only [PyData.depth, PyData.depthAll]; decide⟩
      · exact ⟨rfl, an_dK ed, .dict [], fun H' e => .ed (ex_at e ed), by simp only [leafOk], by simp only [nodes]; decide, by simp only [PyData.depth, PyData.depthKv]; decide⟩
      · exact ⟨by decide, an_int _, .int (10 ^ Int.toNat 30), fun H' e => .dp (.int _), by simp only [leafOk]; decide, by simp only [nodes]; decide, by simp only [PyData.depth]; decide⟩
      · exact ⟨rfl, an_tup ee, .tuple [], fun H' e => .dp (.tup (SqT.of (ex_at e ee)) .nil), by simp only [leafOk, leafOkAll], by simp only [nodes, nodesAll]; decide, by simp only [PyData.depth, PyData.depthAll]; decide⟩
      · exact ⟨by decide, an_int _, .int (0 - 2), fun H' e => .dp (.int _), by simp only [leafOk]; decide, by simp only [nodes]; decide, by simp only [PyData.depth]; decide⟩
    generalize [V.int 2, V.int (0 - 1), V.non, V.bl true, V.bl false, V.str "0", V.ref t0, V.ref l0, V.ref d0, V.int (10 ^ Int.toNat 30), V.ref e0, V.int (0 - 2)] = xs at odd ep
    clear et el ed ee q1 q2 q3 q4 q5 n0 n1 n2 n3 n4
    refine for_tup (xs := xs) (fun i σ H' => ∃ v4 : Option V, σ = [some (.int x), some (.ref p), none, none, v4, some (.ref bx), none] ∧ Stay (tabs P1 P2) Hx H') ⟨_, rfl, LamX.ExtN.refl Hx, tb0⟩ (fun i σ H' _ ⟨_, _, st⟩ => SqT.of (ex_at st.ex ep)) ?_ ?_
    · rintro i o σ H1 ho ⟨v4, rfl, st⟩
      have od := (odd o (List.mem_of_getElem? ho)).ex st.ex
      walk_at "rd"
      refine value (i := 4) rfl rfl (ex0.trans st.ex) st.tb od.an od.no fun H2 l2 st2 f2 e2 => ?_
      have od2 := od.ex st2.ex
      obtain ⟨d, hsh, lf, hn, hd⟩ := od2.sh
      refine rep_one e2 (hsh _ (LamX.ExtN.refl _)) lf hn hd ?_
      walk_at "rd"
      refine ⟨by decide, fun l3 m3 => ?_⟩
      have s3 := same_upd (o := .lst [o]) m3
      refine rep_one upd_same (hsh _ (Ex.of_same s3)) lf hn hd ⟨rfl, iteNS rfl ⟨⟨_, rfl⟩, (st.ex.trans st2.ex).trans (Ex.of_same s3), st2.tb.ext s3⟩⟩
    · rintro σ H1 ⟨v4, rfl, st⟩
      walk_at "rd"
      have eb1 := ex_at st.ex eb
      refine value (i := 5) rfl rfl (ex0.trans st.ex) st.tb (an_lst eb1) rfl fun H2 l2 st2 f2 e2 => ?_
      have eb2 := ex_at st2.ex eb1
      walk_at "rd"
      refine ⟨.ref bx, rfl, .inl ⟨rfl, _, SqL.of eb2⟩, bx, [.str "a"], .str "more", rfl, rfl, eb2, by show 1 < sizeLine; decide, ?_⟩
      have nl2 : l2 ≠ bx := (fr0_ne f2 eb1).symm
      have ex3 : Ex H (upd H2 bx (.lst ([V.str "a"] ++ [.str "more"]))) := ex_put ((ex0.trans st.ex).trans st2.ex) nbx
      have tb3 : LamX.Tabs (tabs P1 P2) (upd H2 bx (.lst ([V.str "a"] ++ [.str "more"]))) := tabs_put st2.tb eb2
      have g1 : upd H2 bx (.lst ([V.str "a"] ++ [.str "more"])) l2 = some (.lst [.ref bx]) := by rw [upd_ne nl2]; exact e2
      have g2 : upd H2 bx (.lst ([V.str "a"] ++ [.str "more"])) bx = some (.lst [.str "a", .str "more"]) := upd_same
      generalize upd H2 bx (.lst ([V.str "a"] ++ [.str "more"])) = H3 at ex3 tb3 g1 g2 ⊢
      clear st2 f2 e2 eb2 eb1 eb st
      refine ⟨by decide, fun p1 n1 => ⟨by decide, fun p2 n2 => ?_⟩⟩
      have s1 := same_upd (o := .lst [.str "a", .str "more"]) n1
      have s2 := same_upd (o := .lst [.ref p1]) n2
      have ex5 : Ex H (upd (upd H3 p1 (.lst [.str "a", .str "more"])) p2 (.lst [.ref p1])) := ex3.trans (Ex.of_same (s1.trans s2))
      have tb5 := tb3.ext (s1.trans s2)
      have D1 : Dp K (upd (upd H3 p1 (.lst [.str "a", .str "more"])) p2 (.lst [.ref p1])) (.ref l2) (.list [.list [.str "a", .str "more"]]) :=
        .lst (SqL.of (s2 _ _ (s1 _ _ g1))) (.cons (.lst (SqL.of (s2 _ _ (s1 _ _ g2))) (.cons (.str _) (.cons (.str _) .nil))) .nil)
      have D2 : Dp K (upd (upd H3 p1 (.lst [.str "a", .str "more"])) p2 (.lst [.ref p1])) (.ref p2) (.list [.list [.str "a", .str "more"]]) :=
        .lst (SqL.of upd_same) (.cons (.lst (SqL.of (s2 _ _ upd_same)) (.cons (.str _) (.cons (.str _) .nil))) .nil)
      have ev : PyData.eqv (.list [.list [.str "a", .str "more"]]) (.list [.list [.str "a", .str "more"]]) = true := by decide +kernel
      have sh : SeqAt.shaped (.list [.list [.str "a", .str "more"]]) = true := by decide +kernel
      refine ⟨_, D1, _, D2, sh, sh, ?_⟩
      rw [ev]
      refine iteF ?_
      clear D1 D2 g1 g2 s1 s2 n1 n2 tb3 ex3 ev sh
      generalize upd (upd H3 p1 (.lst [.str "a", .str "more"])) p2 (.lst [.ref p1]) = H5 at ex5 tb5 ⊢
      refine ⟨2, rfl, by decide, by decide, fun D nD => lc_range (lo := 0) (n := 2) (fun i H' => Stay (tabs P1 P2) H5 H' ∧ H' D = some (.lst (List.replicate i (V.int 1)))) ⟨⟨Ex.of_same (same_upd nD), tb5.ext (same_upd nD)⟩, upd_same⟩
        (fun i H6 hi ⟨st, hD⟩ => ?_) (fun H6 ⟨st, hD⟩ => ?_)⟩
      · walk_at "rd"
        refine value2 rfl rfl (show 0 + (i : Int) = 0 ∨ 0 + (i : Int) = 1 by omega) (ex5.trans st.ex) st.tb fun H9 l9 r9 st9 f9 e9 => ?_
        refine ⟨l9, rfl, _, .inl (SqL.of e9), ?_⟩
        have hD9 := ex_at st9.ex hD
        refine ⟨_, hD9, ?_, ⟨ex_put (st.ex.trans st9.ex) nD, tabs_put st9.tb hD9⟩, ?_⟩
        · rw [List.length_replicate]
          exact small1000 (by omega)
        · rw [upd_same]
          have er : List.replicate i (V.int 1) ++ [V.int 1] = V.int 1 :: List.replicate i (V.int 1) := by rw [← List.replicate_succ', List.replicate_succ]
          show some (HO.lst (List.replicate i (V.int 1) ++ [V.int 1])) = _
          rw [er]
      · walk_at "rd"
        refine ⟨by decide, fun p3 n3 => ?_⟩
        have s3 := same_upd (o := .lst [.int 1, .int 1]) n3
        have D1 : Dp K (upd H6 p3 (.lst [.int 1, .int 1])) (.ref D) (.list [.int 1, .int 1]) := .lst (SqL.of (s3 _ _ hD)) (.cons (.int 1) (.cons (.int 1) .nil))
        have D2 : Dp K (upd H6 p3 (.lst [.int 1, .int 1])) (.ref p3) (.list [.int 1, .int 1]) := .lst (SqL.of upd_same) (.cons (.int 1) (.cons (.int 1) .nil))
        have ev : PyData.eqv (.list [.int 1, .int 1]) (.list [.int 1, .int 1]) = true := by decide +kernel
        refine ⟨_, D1, _, D2, by decide +kernel, by decide +kernel, ?_⟩
        rw [ev]
        refine iteF ?_
        have ex6 := (ex5.trans st.ex).trans (Ex.of_same s3)
        have tb6 := st.tb.ext s3
        clear D1 D2 ev s3 n3 hD st nD
        generalize upd H6 p3 (.lst [.int 1, .int 1]) = H7 at ex6 tb6 ⊢
        have tk7 := tk.ex' ex6
        obtain ⟨dx, e⟩ := id tk7
        refine ⟨⟨_, _, e⟩, p, x, y, rfl, tk7, ⟨_, _, e⟩, p, x, y, rfl, tk7, by decide, fun t1 n1 => ?_⟩
        have s1 := same_upd (o := .tup [.int x, .int y]) n1
        refine ⟨⟨_, _, s1 _ _ e⟩, p, x, y, rfl, tk7.same s1, ⟨_, _, s1 _ _ e⟩, p, x, y, rfl, tk7.same s1, by decide, fun t2 n2 d1 n3 => ⟨by decide, fun t3 n4 => ?_⟩⟩
        have s2 := s1.trans (same_upd (o := .lst [.int x, .int y]) n2)
        have s3 := s2.trans (same_upd (o := .dK []) n3)
        have s4 := s3.trans (same_upd (o := .tup [.ref p]) n4)
        refine ⟨0, rfl, .inl rfl, fun H8 r1 sm8 nr1 er1 => ⟨1, rfl, .inr rfl, fun H9 r2 sm9 nr2 er2 => ⟨by decide, fun lo n5 => ?_⟩⟩⟩
        have s5 := same_upd (o := .lst [V.non, V.int x, V.ref t1, V.ref t2, V.str "ticket", V.bl true, V.ref d1, V.ref t3, V.ref r1, V.ref r2]) n5
        have e1 := s5 _ _ (sm9 _ _ (sm8 _ _ (same_upd (o := .tup [.ref p]) n4 _ _ (same_upd (o := .dK []) n3 _ _ (same_upd (o := .lst [.int x, .int y]) n2 _ _ upd_same)))))
        have e2 := s5 _ _ (sm9 _ _ (sm8 _ _ (same_upd (o := .tup [.ref p]) n4 _ _ (same_upd (o := .dK []) n3 _ _ upd_same))))
        have e3 := s5 _ _ (sm9 _ _ (sm8 _ _ (same_upd (o := .tup [.ref p]) n4 _ _ upd_same)))
        have e4 := s5 _ _ (sm9 _ _ (sm8 _ _ upd_same))
        have a5 : An K (upd H9 lo (.lst [V.non, V.int x, V.ref t1, V.ref t2, V.str "ticket", V.bl true, V.ref d1, V.ref t3, V.ref r1, V.ref r2])) (.ref r1) := er1.elim (fun ⟨_, z⟩ => an_tup (s5 _ _ (sm9 _ _ z))) fun ⟨_, z⟩ => an_lst (s5 _ _ (sm9 _ _ z))
        have a6 : An K (upd H9 lo (.lst [V.non, V.int x, V.ref t1, V.ref t2, V.str "ticket", V.bl true, V.ref d1, V.ref t3, V.ref r1, V.ref r2])) (.ref r2) := er2.elim (fun ⟨_, z⟩ => an_tup (s5 _ _ z)) fun ⟨_, z⟩ => an_lst (s5 _ _ z)
        have sA : Same H7 (upd H9 lo (.lst [V.non, V.int x, V.ref t1, V.ref t2, V.str "ticket", V.bl true, V.ref d1, V.ref t3, V.ref r1, V.ref r2])) := s4.trans (sm8.trans (sm9.trans s5))
        have all : ∀ o ∈ [V.non, V.int x, V.ref t1, V.ref t2, V.str "ticket", V.bl true, V.ref d1, V.ref t3, V.ref r1, V.ref r2], An K (upd H9 lo (.lst [V.non, V.int x, V.ref t1, V.ref t2, V.str "ticket", V.bl true, V.ref d1, V.ref t3, V.ref r1, V.ref r2])) o := by
          intro o ho
          simp only [List.mem_cons, List.not_mem_nil, or_false] at ho
          rcases ho with rfl | rfl | rfl | rfl | rfl | rfl | rfl | rfl | rfl | rfl
          · exact an_non
          · exact an_int _
          · exact an_tup e1
          · exact an_lst e2
          · exact an_str _
          · exact an_bl _
          · exact an_dK e3
          · exact an_tup e4
          · exact a5
          · exact a6
        have eL : upd H9 lo (.lst [V.non, V.int x, V.ref t1, V.ref t2, V.str "ticket", V.bl true, V.ref d1, V.ref t3, V.ref r1, V.ref r2]) lo = some (.lst [V.non, V.int x, V.ref t1, V.ref t2, V.str "ticket", V.bl true, V.ref d1, V.ref t3, V.ref r1, V.ref r2]) := upd_same
        have exA := ex6.trans (Ex.of_same sA)
        have tbA := tb6.ext sA
        generalize upd H9 lo (.lst [V.non, V.int x, V.ref t1, V.ref t2, V.str "ticket", V.bl true, V.ref d1, V.ref t3, V.ref r1, V.ref r2]) = HA at all eL exA tbA ⊢
        generalize [V.non, V.int x, V.ref t1, V.ref t2, V.str "ticket", V.bl true, V.ref d1, V.ref t3, V.ref r1, V.ref r2] = ys at all eL
        refine ⟨.ref lo, rfl, lo, rfl, ⟨_, SqL.of eL⟩, fun D nD => lc_list (xs := ys) (fun j H' => Same HA H' ∧ H' D = some (.lst [])) ⟨same_upd nD, upd_same⟩ (fun j H' _ ⟨s1, _⟩ => SqL.of (s1 _ _ eL)) (fun j o HB ho ⟨s1, hD⟩ => ?_) (fun HB ⟨s1, hD⟩ => ?_)⟩
        · have ao := (all o (List.mem_of_getElem? ho)).ex (Ex.of_same s1)
          have tkB := tk.ex' (exA.trans (Ex.of_same s1))
          obtain ⟨dx, e⟩ := id tkB
          obtain ⟨nn, b1, b2, hn, ty, _⟩ := id ao
          walk_at "rd"
          have nf := AT.nf nn hn
          have nt := ao.noTk AT
          refine ⟨⟨_, _, e⟩, _, ty, nf, p, x, y, o, rfl, tkB, .inr ⟨nt, _, rfl, iteNS rfl ?_⟩⟩
          exact ⟨p, dx, _, _, rfl, e, ty, nf, p, x, y, o, rfl, tkB, .inr ⟨nt, _, rfl, _, rfl, iteNS rfl ⟨s1, hD⟩⟩⟩
        · walk_at "rd"
          refine ⟨Nat.zero_le _, fun l9 m9 => ?_⟩
          have s9 := same_upd (o := .lst []) m9
          refine ⟨.list [], dp_nil (SqL.of (s9 _ _ hD)), .list [], dp_nil (SqL.of upd_same), shaped_nil, shaped_nil, ?_⟩
          have ev : PyData.eqv (.list []) (.list []) = true := by decide +kernel
          rw [ev]
          exact k _ ⟨exA.trans (Ex.of_same (s1.trans s9)), tbA.ext (s1.trans s9)⟩
end
end CT
/-! part HL5 -/
set_option Elab.async false
set_option linter.all false
set_option maxRecDepth 100000
set_option maxHeartbeats 4000000
namespace CT
open PySem PySem.Spec PyProof.Rows L2
local macro_rules | `(tactic| walk_at "rd") => `(tactic| (try simp only [tSeq, tAsg, tOp, rI0, rI, tC, tVar, gName, tRet, tRetN, tIfS, tIf, tTest, tB, tAnd, tOr, tNot, tAndV, tOrV, tNotV, tCons, tNil, tCall, tCB, tDrop, tNext, rEq, rNe, L2.start, List.length_cons, List.length_nil, List.map_cons, List.map_nil, List.cons_append, List.nil_append, List.append_nil, List.append_eq, List.replicate, List.set_cons_zero, List.set_cons_succ, List.getElem?_cons_zero, List.getElem?_cons_succ, Option.some.injEq, V.int.injEq, V.str.injEq, V.ref.injEq, V.bl.injEq, exists_eq_left', exists_eq_left, exists_and_left, exists_and_right, exists_eq', exists_eq, Nat.reduceSub, Nat.reduceAdd, true_and, and_true, CMul, CDiv, CDivN, cxOf, Cx.nox, Cx.wish, iRng1, iRng2, iEnum, iList, iTup, gTup, gCons, gNil, gSub, rSetL, rIxL, rIxT, wipe, tYes, ↓reduceIte, if_true, tDGet, rNeD, rEqD, tLst, tTup, sDPut, StX.tMakeR, tMakeS, tProp, tMeth, ClX.tCVal, tFld, sFld, tNever, rIsi, tMk1, rCmp, rIn, rItem, tMakeK, tXk, tPairs, tDisp, tCon, tPar, tDNewK]))
section
variable {P : Program} {w : World} {K : PySem.W.Frag} {mg : Str → Option Value} {base : Heap} {cT cIT cIN : Addr}
abbrev s_law_right : Stmt := topS 24
theorem sc_law_right : FnScope ["near", "far", "one", "due", "back"] ["near", "far"] (defScope s_law_right) := ⟨rfl, rfl, rfl, by decide +kernel, rfl, by decide +kernel, by decide +kernel⟩
def readD (x y : Int) : List PyData := [.int x, .int y, .bool (decide (x < y)), .bool (decide (y < x)), .int x, .int y, .int 30]
theorem dp_read {H : Hp} (x y : Int) : DpAll K H (readV x y) (readD x y) := .cons (.int _) (.cons (.int _) (.cons (.bl _) (.cons (.bl _) (.cons (.int _) (.cons (.int _) (.cons (.int _) .nil))))))
theorem read_ok {x y : Int} (hx : isH x) (hy : isH y) : leafOkAll (readD x y) ∧ nodesAll (readD x y) = 7 ∧ PyData.depthAll (readD x y) = 0 := by
  have h : ∀ {i : Int}, isH i → i.natAbs < 2 ^ 128 := fun {i} h => Nat.lt_of_le_of_lt (show i.natAbs ≤ 30 by unfold isH at h; omega) (by decide)
  refine ⟨?_, rfl, rfl⟩
  simp only [readD, leafOkAll, leafOk, and_true, true_and]
  exact ⟨h hx, h hy, h hx, h hy, by decide⟩
theorem isH_back {x : Int} (h : isH x) : isH (30 - x) := by
  unfold isH at h ⊢
  omega
theorem rep_read {H : Hp} {l : Addr} {x y : Int} {Q : VK} (hx : isH x) (hy : isH y) (h : H l = some (.lst (readV x y))) (q : Q (.str (PyData.list (readD x y)).shown) H) : rRepr K [.ref l] H Q := by
  obtain ⟨h1, h2, h3⟩ := read_ok hx hy
  exact ⟨l, _, _, rfl, SqL.of h, ShAll.dp (dp_read x y), h1, by omega, by omega, q⟩
theorem rep_read2 {H : Hp} {l l1 l2 : Addr} {x y u v : Int} {Q : VK} (hx : isH x) (hy : isH y) (hu : isH u) (hv : isH v) (h : H l = some (.lst [.ref l1, .ref l2])) (e1 : H l1 = some (.lst (readV x y))) (e2 : H l2 = some (.lst (readV u v)))
    (q : Q (.str (PyData.list [.list (readD x y), .list (readD u v)]).shown) H) : rRepr K [.ref l] H Q := by
  obtain ⟨h1, h2, h3⟩ := read_ok hx hy
  obtain ⟨k1, k2, k3⟩ := read_ok hu hv
  refine ⟨l, _, [.list (readD x y), .list (readD u v)], rfl, SqL.of h, ShAll.dp (.cons (.lst (SqL.of e1) (dp_read x y)) (.cons (.lst (SqL.of e2) (dp_read u v)) .nil)), ?_, ?_, ?_, q⟩
  · simp only [leafOkAll, leafOk, and_true]
    exact ⟨h1, k1⟩
  · simp only [nodesAll, nodes]
    omega
  · simp only [PyData.depthAll, PyData.depth]
    omega
theorem back_eq {x y : Int} : [V.int (30 - y), V.int (30 - x), V.bl (decide (x < y)), V.bl (decide (y < x)), V.int (30 - y), V.int (30 - x), V.int 30] = readV (30 - y) (30 - x) := by
  unfold readV
  have h1 : decide (x < y) = decide (30 - y < 30 - x) := decide_eq_decide.mpr (by omega)
  have h2 : decide (y < x) = decide (30 - x < 30 - y) := decide_eq_decide.mpr (by omega)
  rw [h1, h2]
def spRight (T : List (Addr × Str)) : Sp := fun vs H Q _ => ∃ (x y : Int), vs = [.int x, .int y] ∧ isH x ∧ isH y ∧ LamX.Tabs T H ∧ ∀ H', Stay T H H' → Q (.bl true) H'
theorem ok_right {f P1 P2 : Addr} {fd : FuncData} (F : Fun K "_law_right" "_law_right" s_law_right f fd) (T : Tx K mg cT) (R : TkR P w K mg base cT cIT cIN) (c_law_read : Cl P w K mg base 6 "_law_read" (spRead cT))
    (c_law_inside_right : ClG P w K mg base 6 "_law_inside_right" (spInside cT)) (c_law_refused_right : ClG P w K mg base 9 "_law_refused_right" (spRefused cT (tabs P1 P2))) : GnOk P w K mg base CX0 10 f fd ["near", "far"] (spRight (tabs P1 P2)) := by
  refine okG F sc_law_right (fun vs H Q E h => ?_) (fun cdv A outer s H vs Q E hr hgd h => ?_)
  · obtain ⟨x, y, rfl, _⟩ := h
    rfl
  · obtain ⟨x, y, rfl, hx, hy, tb, k⟩ := h
    have hu := hu_of hr
    have mk_Ticket := R.maker
    have m_turned := R.turned
    refine ⟨_, (pss_cons (ps_par (i := 2) (j := 3) (by rfl) sc_law_right.nd rfl rfl (by decide) rfl rfl (pa_cons (pe_mkR mk_Ticket hr (by decide) (by rfl) pass0 (pa_cons (pv 0) (pa_cons (pv 1) pa_nil))) (pa_cons (pe_lst (pa_cons (pv 0) (pa_cons (pv 1) (pa_cons (pe_cmpR op_gt (pv 1) (pv 0) (nomark _)) (pa_cons (pe_cmpR op_lt (pv 1) (pv 0) (nomark _)) (pa_cons (pv 0) (pa_cons (pv 1) (pa_cons pe_int pa_nil)))))))) pa_nil)) (by rfl))
      (pss_cons (ps_set (i := 4) sc_law_right.nd rfl (.inl rfl) (pe_lst (pa_cons (pe_op op_sub pe_int (pv 1)) (pa_cons (pe_op op_sub pe_int (pv 0)) (pa_cons (pe_cmpR op_gt (pv 1) (pv 0) (nomark _)) (pa_cons (pe_cmpR op_lt (pv 1) (pv 0) (nomark _)) (pa_cons (pe_op op_sub pe_int (pv 1)) (pa_cons (pe_op op_sub pe_int (pv 0)) (pa_cons pe_int pa_nil)))))))))
      (pss_cons (ps_if (pt_cmpR op_ne (pe_callB (call_repr_l hgd hr) (by rfl) R.m_repr (by decide +kernel) (pa_cons (pe_lst (pa_cons (pe_cl c_law_read hr (by decide) (by rfl) (pa_cons (pv 2) pa_nil)) (pa_cons (pe_cl c_law_read hr (by decide) (by rfl) (pa_cons (pe_me0 m_turned hr (by decide) pass0 (pv 2)) pa_nil)) pa_nil))) pa_nil)) (pe_callB (call_repr_l hgd hr) (by rfl) R.m_repr (by decide +kernel) (pa_cons (pe_lst (pa_cons (pv 3) (pa_cons (pv 4) pa_nil))) pa_nil)) (nomark _)) (pss_one (ps_ret pe_bl)) pss_nil)
      (pss_cons (ps_if (PW.pt (pw_or (pt_not (pt_val (pe_clG c_law_inside_right hr (by decide) hgd (by rfl) (pa_cons (pv 0) (pa_cons (pv 1) (pa_cons (pv 2) pa_nil)))))) (pw_or1 (pt_not (pt_val (pe_clG c_law_refused_right hr (by decide) hgd (by rfl) (pa_cons (pv 0) (pa_cons (pv 2) pa_nil)))))))) (pss_one (ps_ret pe_bl)) pss_nil)
      (pss_one (ps_ret (pe_and (pe_cmpR (op_cmp (op := .Eq) R.eq rfl (hr.mono (by decide)) pass0) (pe_me0 m_turned hr (by decide) pass0 (pe_me0 m_turned hr (by decide) pass0 (pv 2))) (pv 2) (nomark _)) (pe_one (pe_cmpR op_eq (pe_callB (call_repr_l hgd hr) (by rfl) R.m_repr (by decide +kernel) (pa_cons (pe_cl c_law_read hr (by decide) (by rfl) (pa_cons (pv 2) pa_nil)) pa_nil)) (pe_callB (call_repr_l hgd hr) (by rfl) R.m_repr (by decide +kernel) (pa_cons (pv 3) pa_nil)) (nomark _)))))))))), ?_⟩
    walk_at "rd"
    intro p dx np nd ne
    refine ⟨p, dx, x, y, rfl, upd_same, hx, hy, rfl, by decide, fun l1 n1 => ⟨_, _, rfl, by decide, fun l2 n2 => ?_⟩⟩
    obtain ⟨sm1, tk1⟩ := tk_made (cT := cT) (x := x) (y := y) np nd ne
    rw [back_eq] at *
    have s1 := same_upd (o := .lst (readV x y)) n1
    have s2 := same_upd (o := .lst (readV (30 - y) (30 - x))) n2
    have e1 : upd (upd (upd (upd (upd H dx (.own p)) p (.ins cT dx [])) p (.ins cT dx (tf x y))) l1 (.lst (readV x y))) l2 (.lst (readV (30 - y) (30 - x))) l1 = some (.lst (readV x y)) := s2 _ _ upd_same
    have e2 : upd (upd (upd (upd (upd H dx (.own p)) p (.ins cT dx [])) p (.ins cT dx (tf x y))) l1 (.lst (readV x y))) l2 (.lst (readV (30 - y) (30 - x))) l2 = some (.lst (readV (30 - y) (30 - x))) := upd_same
    have tk2 : TkAt cT (upd (upd (upd (upd (upd H dx (.own p)) p (.ins cT dx [])) p (.ins cT dx (tf x y))) l1 (.lst (readV x y))) l2 (.lst (readV (30 - y) (30 - x)))) p x y := (tk1.same s1).same s2
    have smA : Same H (upd (upd (upd (upd (upd H dx (.own p)) p (.ins cT dx [])) p (.ins cT dx (tf x y))) l1 (.lst (readV x y))) l2 (.lst (readV (30 - y) (30 - x)))) := sm1.trans (s1.trans s2)
    show spRead cT [V.ref p] (upd (upd (upd (upd (upd H dx (.own p)) p (.ins cT dx [])) p (.ins cT dx (tf x y))) l1 (.lst (readV x y))) l2 (.lst (readV (30 - y) (30 - x)))) _ _
    generalize upd (upd (upd (upd (upd H dx (.own p)) p (.ins cT dx [])) p (.ins cT dx (tf x y))) l1 (.lst (readV x y))) l2 (.lst (readV (30 - y) (30 - x))) = HA at e1 e2 tk2 smA ⊢
    refine ⟨p, x, y, rfl, tk2, fun HB r1 smB nr1 er1 => ?_⟩
    have tkB := tk2.same smB
    obtain ⟨dy, eB⟩ := id tkB
    refine ⟨p, rfl, _, _, eB, tf_no x y (by decide +kernel) (by decide +kernel), p, x, y, rfl, tkB, hx, hy, fun HC p2 smC np2 tkC => ?_⟩
    refine ⟨p2, _, _, rfl, tkC, fun HD r2 smD nr2 er2 => ⟨by decide, fun l3 n3 => ?_⟩⟩
    have s3 := same_upd (o := .lst [.ref r1, .ref r2]) n3
    refine rep_read2 hx hy (isH_back hy) (isH_back hx) upd_same (s3 _ _ (smD _ _ (smC _ _ er1))) (s3 _ _ er2) ⟨by decide, fun l4 n4 => ?_⟩
    have s4 := same_upd (o := .lst [.ref l1, .ref l2]) n4
    have sAD := smB.trans (smC.trans (smD.trans (s3.trans s4)))
    refine rep_read2 hx hy (isH_back hy) (isH_back hx) upd_same (sAD _ _ e1) (sAD _ _ e2) ⟨rfl, iteNS rfl ?_⟩
    have tkE := tk2.same sAD
    have smE := smA.trans sAD
    have eE1 := sAD _ _ e1
    generalize upd (upd HD l3 (.lst [.ref r1, .ref r2])) l4 (.lst [.ref l1, .ref l2]) = HE at tkE smE eE1 ⊢
    refine ⟨p, x, y, rfl, tkE, hx, hy, fun HF smF => ⟨_, rfl, iteF ?_⟩⟩
    walk_at "rd"
    have smHF := smE.trans smF
    refine ⟨p, x, y, rfl, tkE.same smF, hx, hy, tb.ext smHF, fun HG st => ⟨_, rfl, iteF ?_⟩⟩
    have tkG := (tkE.same smF).ex' st.ex
    have eG1 := ex_at st.ex (smF _ _ eE1)
    obtain ⟨dg, eG⟩ := id tkG
    refine ⟨_, _, eG, tf_no x y (by decide +kernel) (by decide +kernel), p, x, y, rfl, tkG, hx, hy, fun HI q1 sm1 nq1 tkI => ?_⟩
    obtain ⟨di, eI⟩ := id tkI
    refine ⟨q1, rfl, _, _, eI, tf_no _ _ (by decide +kernel) (by decide +kernel), q1, _, _, rfl, tkI, isH_back hy, isH_back hx, fun HJ q2 sm2 nq2 tkJ => ?_⟩
    obtain ⟨dj, eJ⟩ := id tkJ
    have tkp := (tkG.same sm1).same sm2
    obtain ⟨dp, ep⟩ := id tkp
    refine ⟨q2, rfl, ⟨_, _, eJ⟩, _, tk_ty T ep, R.noNe.nf, q2, _, _, .ref p, rfl, tkJ, .inl ⟨p, x, y, rfl, tkp, _, rfl, ?_⟩⟩
    have c1 : decide (30 - (30 - x) = x) = true := decide_eq_true (by omega)
    have c2 : decide (30 - (30 - y) = y) = true := decide_eq_true (by omega)
    rw [c1, c2]
    refine iteT ⟨p, x, y, rfl, tkp, fun HK r sm3 nr er => ?_⟩
    refine rep_read hx hy er ?_
    have eK := sm3 _ _ (sm2 _ _ (sm1 _ _ eG1))
    refine rep_read hx hy eK ⟨rfl, ?_⟩
    rw [decide_eq_true rfl]
    have s3 := sm1.trans (sm2.trans sm3)
    exact k _ ⟨((Ex.of_same smHF).trans st.ex).trans (Ex.of_same s3), st.tb.ext s3⟩
end
end CT
/-! part HL6 -/
set_option Elab.async false
set_option linter.all false
set_option maxRecDepth 100000
set_option maxHeartbeats 4000000
namespace CT
open PySem PySem.Spec PyProof.Rows L2
local macro_rules | `(tactic| walk_at "rd") => `(tactic| (try simp only [tSeq, tAsg, tOp, rI0, rI, tC, tVar, gName, tRet, tRetN, tIfS, tIf, tTest, tB, tAnd, tOr, tNot, tAndV, tOrV, tNotV, tCons, tNil, tCall, tCB, tDrop, tNext, rEq, rNe, L2.start, List.length_cons, List.length_nil, List.map_cons, List.map_nil, List.cons_append, List.nil_append, List.append_nil, List.append_eq, List.replicate, List.set_cons_zero, List.set_cons_succ, List.getElem?_cons_zero, List.getElem?_cons_succ, Option.some.injEq, V.int.injEq, V.str.injEq, V.ref.injEq, V.bl.injEq, exists_eq_left', exists_eq_left, exists_and_left, exists_and_right, exists_eq', exists_eq, Nat.reduceSub, Nat.reduceAdd, true_and, and_true, CMul, CDiv, CDivN, cxOf, Cx.nox, Cx.wish, iRng1, iRng2, iEnum, iList, iTup, gTup, gCons, gNil, gSub, rSetL, rIxL, rIxT, wipe, tYes, ↓reduceIte, if_true, tDGet, rNeD, rEqD, tLst, tTup, sDPut, StX.tMakeR, tMakeS, tProp, tMeth, ClX.tCVal, tFld, sFld, tNever, rIsi, tMk1, rCmp, rIn, rItem, tMakeK, tXk, tPairs, tDisp, tCon, tPar, tDNewK]))
section
variable {P : Program} {w : World} {K : PySem.W.Frag} {mg : Str → Option Value} {base : Heap} {cT cIT cIN : Addr}
abbrev s_law : Stmt := topS 27
theorem sc_law : FnScope ["script", "m", "odds", "near", "heap", "rows_here", "told", "one", "kept", "far", "n", "two"] ["script"] (defScope s_law) := ⟨rfl, rfl, rfl, by decide +kernel, rfl, by decide +kernel, by decide +kernel⟩
def spLaw (K : PySem.W.Frag) (T : List (Addr × Str)) : Sp := fun vs H Q _ => ∃ (a : Addr) (ns : List Int), vs = [.ref a] ∧ SqL K H a (ns.map V.int) ∧ ns.length ≤ 63 ∧ LamX.Tabs T H ∧ ∀ H', Q (.bl true) H'
theorem Stay.trans {T : List (Addr × Str)} {H H1 H2 : Hp} (a : Stay T H H1) (b : Stay T H1 H2) : Stay T H H2 := ⟨a.ex.trans b.ex, b.tb⟩
theorem Stay.same {T : List (Addr × Str)} {H H1 H2 : Hp} (a : Stay T H H1) (b : Same H1 H2) : Stay T H H2 := ⟨a.ex.trans (Ex.of_same b), a.tb.ext b⟩
theorem Stay.refl {T : List (Addr × Str)} {H : Hp} (t : LamX.Tabs T H) : Stay T H H := ⟨LamX.ExtN.refl H, t⟩
theorem nil_eqv : PyData.eqv (.list []) (.list []) = true := by decide +kernel
/-- a pair of heights at t -/
def RowAt (H : Hp) (t : Addr) : Prop := ∃ x y : Int, H t = some (.tup [.int x, .int y]) ∧ isH x ∧ isH y
theorem RowAt.ex {H H' : Hp} {t : Addr} (h : RowAt H t) (e : Ex H H') : RowAt H' t := let ⟨x, y, z, a⟩ := h; ⟨x, y, ex_at e z, a⟩
theorem RowAt.kp {H H' : Hp} {t dm dc dg : Addr} {k : Nat} (h : RowAt H t) (M : MAt H dm dc dg k) (e : Kp dm dg H H') : RowAt H' t := by
  obtain ⟨x, y, z, a⟩ := h
  obtain ⟨n', cs, gs, hn, h1, h2, h3, r⟩ := M.ex
  exact ⟨x, y, e.at_ _ _ z (ne_of z h1 (by intro z; cases z)) (ne_of z h3 (by intro z; cases z)), a⟩
theorem RowAt.put {H : Hp} {t a : Addr} {xs : List V} {o : HO} (h : RowAt H t) (e : H a = some (.lst xs)) : RowAt (upd H a o) t := by
  obtain ⟨x, y, z, w⟩ := h
  exact ⟨x, y, by rw [upd_ne (ne_of z e (by intro z; cases z))]; exact z, w⟩
theorem tabs_kp {T : List (Addr × Str)} {H H' : Hp} {dm dc dg : Addr} {k : Nat} (t : LamX.Tabs T H) (M : MAt H dm dc dg k) (e : Kp dm dg H H') : LamX.Tabs T H' := by
  obtain ⟨n', cs, gs, hn, h1, h2, h3, r⟩ := M.ex
  intro pq hpq
  obtain ⟨ps, a1, a2, a3⟩ := t pq hpq
  refine ⟨ps, e.at_ _ _ a1 (ne_of a1 h1 (by intro z; cases z)) (ne_of a1 h3 (by intro z; cases z)), a2, fun pos cv hc => ?_⟩
  obtain ⟨c0, b1, b2⟩ := a3 pos cv hc
  exact ⟨c0, b1, e.at_ _ _ b2 (ne_of b2 h1 (by intro z; unfold LamX.CodeO at z; cases z)) (ne_of b2 h3 (by intro z; unfold LamX.CodeO at z; cases z))⟩
/-- pairs, as they are drawn into the list at D -/
def PairInv (Hs : Hp) (dm dc dg D : Addr) (k0 i : Nat) (H' : Hp) : Prop := Kp dm dg Hs H' ∧ MAt H' dm dc dg (k0 + 2 * i) ∧ ∃ ps : List Addr, H' D = some (.lst (ps.map V.ref)) ∧ ps.length = i ∧ ∀ t ∈ ps, RowAt H' t
theorem pair_step {Hs H' H2 : Hp} {dm dc dg D p : Addr} {k0 k1 i : Nat} {x y : Int} (ms : MAt Hs dm dc dg k1) (nD : Hs D = none) (h : PairInv Hs dm dc dg D k0 i H') (kp : Kp dm dg H' H2) (m2 : MAt H2 dm dc dg (k0 + 2 * i + 2)) (np : H' p = none) (ep : H2 p = some (.tup [.int x, .int y])) (hx : isH x) (hy : isH y) (hi : i ≤ 1000) :
    ∃ acc, H2 D = some (.lst acc) ∧ acc.length < sizeLine ∧ PairInv Hs dm dc dg D k0 (i + 1) (upd H2 D (.lst (acc ++ [.ref p]))) := by
  obtain ⟨k1, m1, ps, hD, hl, hr⟩ := h
  have hD2 := kp.at_ _ _ hD (ms.nm nD) (ms.ng nD)
  refine ⟨_, hD2, ?_, (k1.trans kp).put nD, ?_, ps ++ [p], ?_, ?_, fun t ht => ?_⟩
  · rw [List.length_map, hl]
    exact small1000 hi
  · exact (m2.mono (by omega)).put (ms.nm nD) (ms.nc nD) (ms.ng nD)
  · rw [upd_same, List.map_append]
    rfl
  · rw [List.length_append, hl]
    rfl
  · rcases List.mem_append.mp ht with ht | ht
    · exact ((hr t ht).kp m1 kp).put hD2
    · rw [List.mem_singleton.mp ht]
      exact RowAt.put (H := H2) ⟨x, y, ep, hx, hy⟩ hD2
/-- the pair at t -/
def keyH (H : Hp) (t : Addr) : Int × Int := match H t with
  | some (.tup [.int x, .int y]) => (x, y)
  | _ => (0, 0)
theorem RowAt.key {H : Hp} {t : Addr} (h : RowAt H t) : H t = some (.tup [.int (keyH H t).1, .int (keyH H t).2]) ∧ isH (keyH H t).1 ∧ isH (keyH H t).2 := by
  obtain ⟨x, y, e, hx, hy⟩ := h
  have z : keyH H t = (x, y) := by
    unfold keyH
    rw [e]
  rw [z]
  exact ⟨e, hx, hy⟩
/-- the heights of the ticket at t -/
def keyI (o : Option V) : Int := match o with
  | some (.int x) => x
  | _ => 0
def keyT (H : Hp) (t : Addr) : Int × Int := match H t with
  | some (.ins _ _ fs) => (keyI (fs.lookup ("_x" : Str)), keyI (fs.lookup ("_y" : Str)))
  | _ => (0, 0)
theorem tk_key {H : Hp} {t : Addr} {x y : Int} (h : TkAt cT H t x y) : keyT H t = (x, y) := by
  obtain ⟨dx, e⟩ := h
  unfold keyT
  rw [e]
  show (keyI ((tf x y).lookup ("_x" : Str)), keyI ((tf x y).lookup ("_y" : Str))) = _
  rw [tf_x, tf_y]
  rfl
theorem paired_keys {H : Hp} {kr : Addr → Int × Int} : ∀ {ts rs : List Addr}, Paired (fun t r => TkAt cT H t (kr r).1 (kr r).2) ts rs → ts.map (keyT H) = rs.map kr ∧ ∀ t ∈ ts, TkAt cT H t (keyT H t).1 (keyT H t).2
  | _, _, .nil => ⟨rfl, fun t ht => by cases ht⟩
  | _, _, .cons h r => by
    obtain ⟨h1, h2⟩ := paired_keys r
    have e := tk_key h
    refine ⟨by rw [List.map_cons, List.map_cons, h1, e], fun t ht => ?_⟩
    rcases List.mem_cons.mp ht with z | z
    · rw [z, e]
      exact h
    · exact h2 t z
def pdP (p : Int × Int) : PyData := .tuple [.int p.1, .int p.2]
theorem eqv_pairs : ∀ l : List (Int × Int), PyData.eqvAll (l.map pdP) (l.map pdP) = true
  | [] => by simp only [List.map_nil, PyData.eqvAll]
  | p :: r => by
    simp only [List.map_cons, PyData.eqvAll, eqv_pairs r, Bool.and_true]
    unfold pdP
    rw [eqv_pair, decide_eq_true rfl, decide_eq_true rfl]
    rfl
theorem lay_pairs : ∀ l : List (Int × Int), PyData.canLayAll0 (l.map pdP) = true ∧ PyData.depthAll (l.map pdP) ≤ 1
  | [] => by simp [PyData.canLayAll0, PyData.depthAll]
  | p :: r => by
    obtain ⟨h1, h2⟩ := lay_pairs r
    simp only [List.map_cons, PyData.canLayAll0, PyData.depthAll, h1, Bool.and_true, pdP, PyData.canLay0, PyData.depth, true_and]
    omega
theorem shaped_pairs (l : List (Int × Int)) : SeqAt.shaped (.list (l.map pdP)) = true := by
  obtain ⟨h1, h2⟩ := lay_pairs l
  unfold SeqAt.shaped
  simp only [PyData.canLay0, h1, PyData.depth, Bool.true_and]
  exact decide_eq_true (by omega)
/-- tuples, as they are read off tickets into the list at D -/
def ReadInv (key : Addr → Int × Int) (ts : List Addr) (Hs : Hp) (D : Addr) (j : Nat) (H' : Hp) : Prop := Same Hs H' ∧ ∃ us : List Addr, H' D = some (.lst (us.map V.ref)) ∧ Paired (fun u t => H' u = some (.tup [.int (key t).1, .int (key t).2])) us (ts.take j)
theorem read_turn {key : Addr → Int × Int} {ts : List Addr} {Hs H' : Hp} {D t u : Addr} {j : Nat} (inv : ReadInv key ts Hs D j H') (ht : ts[j]? = some t) (nD : Hs D = none) (nu : H' u = none) (hl : ts.length ≤ 1000) :
    ∃ acc, (upd H' u (.tup [.int (key t).1, .int (key t).2])) D = some (.lst acc) ∧ acc.length < sizeLine ∧ ReadInv key ts Hs D (j + 1) (upd (upd H' u (.tup [.int (key t).1, .int (key t).2])) D (.lst (acc ++ [.ref u]))) := by
  obtain ⟨sm, us, hD, hp⟩ := inv
  have s1 := same_upd (o := .tup [.int (key t).1, .int (key t).2]) nu
  have nuD : u ≠ D := (ne_of_none hD nu).symm
  refine ⟨_, s1 _ _ hD, ?_, fun b o e => ?_, us ++ [u], ?_, ?_⟩
  · rw [List.length_map, hp.length, List.length_take]
    exact small1000 (by omega)
  · rw [upd_ne (ne_of_none e nD)]
    exact s1 _ _ (sm _ _ e)
  · rw [upd_same, List.map_append]
    rfl
  · rw [List.take_add_one, ht]
    refine Paired.snoc (Paired.mono (fun u2 t2 e => ?_) hp) ?_
    · rw [upd_ne (ne_of e hD (by intro z; cases z))]
      exact s1 _ _ e
    · rw [upd_ne nuD]
      exact upd_same
theorem dp_read_pairs {key : Addr → Int × Int} {H : Hp} : ∀ {us ts : List Addr}, Paired (fun u t => H u = some (.tup [.int (key t).1, .int (key t).2])) us ts → DpAll K H (us.map V.ref) ((ts.map key).map pdP)
  | _, _, .nil => .nil
  | _, _, .cons h r => .cons (dp_pair h) (dp_read_pairs r)
theorem dp_own_pairs {key : Addr → Int × Int} {H : Hp} : ∀ {ts : List Addr}, (∀ t ∈ ts, H t = some (.tup [.int (key t).1, .int (key t).2])) → DpAll K H (ts.map V.ref) ((ts.map key).map pdP)
  | [], _ => .nil
  | t :: r, h => .cons (dp_pair (h t List.mem_cons_self)) (dp_own_pairs fun t ht => h t (List.mem_cons_of_mem _ ht))
theorem ord_map {α β : Type} (f : α → β) (lt : β → β → Bool) (xs : List α) : (ordA (fun a b => lt (f a) (f b)) xs).map f = ordA lt (xs.map f) := fold_map f _ lt xs [] (fun _ _ => rfl)
theorem ord_mem {α : Type} {lt : α → α → Bool} {xs : List α} {t : α} (h : t ∈ ordA lt xs) : t ∈ xs := by
  rcases fold_mem h with z | z
  · cases z
  · exact z
theorem ord_len {α : Type} (lt : α → α → Bool) (xs : List α) : (ordA lt xs).length = xs.length := by
  unfold ordA
  rw [fold_len]
  simp
theorem ref_at {ts : List Addr} {i : Nat} {x : V} (h : (ts.map V.ref)[i]? = some x) : ∃ t, ts[i]? = some t ∧ x = .ref t := by
  rw [List.getElem?_map] at h
  cases e9 : ts[i]? with
  | none => rw [e9] at h; cases h
  | some z => rw [e9] at h; exact ⟨z, rfl, (Option.some.inj h).symm⟩
theorem ok_law {f P1 P2 : Addr} {fd : FuncData} (F : Fun K "law" "law" s_law f fd) (T : Tx K mg cT) (R : TkR P w K mg base cT cIT cIN) (c_law_begun : Cl P w K mg base 2 "_law_begun" (spBegun K)) (c_law_checked : Cl P w K mg base 9 "_law_checked" (spChecked K (tabs P1 P2)))
    (c_law_doubled : Cl P w K mg base 1 "_law_doubled" spDoubled) (c_law_pair : Cl P w K mg base 3 "_law_pair" spPair) (c_law_right : ClG P w K mg base 10 "_law_right" (spRight (tabs P1 P2))) (c_law_compared : ClG P w K mg base 6 "_law_compared" (spCompared cT))
    (c_ord1 : Cl P w K mg base 6 "_law_ordered" (spOrdered K cT)) (c_ord2 : Cl P w K mg base 6 "_law_ordered" (spOrderedT K)) : GnOk P w K mg base CX0 11 f fd ["script"] (spLaw K (tabs P1 P2)) := by
  refine okG F sc_law (fun vs H Q E h => ?_) (fun cdv A outer s H vs Q E hr hgd h => ?_)
  · obtain ⟨a, ns, rfl, _⟩ := h
    rfl
  · obtain ⟨a, ns, rfl, hS, hl, tb, k⟩ := h
    have hu := hu_of hr
    have mk_Ticket := R.maker
    have P_x := R.x
    have P_y := R.y
    refine ⟨_, (pss_cons (ps_set (i := 1) sc_law.nd rfl (.inr rfl) (pe_cl c_law_begun hr (by decide) (by rfl) (pa_cons (pv 0) pa_nil)))
      (pss_cons (ps_set (i := 2) sc_law.nd rfl (.inl rfl) (pe_lst (pa_cons pe_int (pa_cons pe_int (pa_cons pe_int (pa_cons pe_int (pa_cons pe_int (pa_cons pe_int (pa_cons (pe_op op_sub pe_int pe_int) (pa_cons pe_bl (pa_cons pe_bl (pa_cons pe_non (pa_cons pe_str (pa_cons (pe_tup (pa_cons pe_int pa_nil)) (pa_cons (pe_lst (pa_cons pe_int pa_nil)) (pa_cons pe_dnewK (pa_cons (pe_op op_pow pe_int pe_int) (pa_cons pe_str pa_nil))))))))))))))))))
      (pss_cons (ps_for PassesOwn.never rfl (pi_list (pv 2)) (pg_name (i := 3) sc_law.nd rfl (.inr rfl)) (pss_one (ps_if (pt_cmpR (op_neD hr.units) (pe_lc (own := [("far", 9)]) rfl sc_law.nd (pi_list (pv 2)) (blkOk_by (own := [("far", 9)]) (N := ["script", "m", "odds", "near", "heap", "rows_here", "told", "one", "kept", "far", "n", "two"]) (sc := defScope s_law) (by decide +kernel)) (fun _ _ _ _ _ => (pg_name (i := 9) sc_law.nd rfl (Or.inl rfl))) (fun _ _ _ _ _ => (pts_one (pt_not (pt_val (pe_cl c_law_checked hr (by decide) (by rfl) (pa_cons (pv 3) (pa_cons (pv 9) pa_nil))))))) (fun _ _ _ _ _ => (pv 9))) (pe_lst pa_nil) (nomark _)) (pss_one (ps_ret pe_bl)) pss_nil)))
      (pss_cons (ps_for PassesOwn.never rfl (pi_tup (pe_tup (pa_cons (pe_cl c_law_doubled hr (by decide) (by rfl) (pa_cons pe_int pa_nil)) (pa_cons (pe_cl c_law_doubled hr (by decide) (by rfl) (pa_cons pe_int pa_nil)) pa_nil)))) (pg_name (i := 4) sc_law.nd rfl (.inl rfl)) (pss_one (ps_if (PW.pt (pw_or (pt_not (pt_val (pe_cl c_law_checked hr (by decide) (by rfl) (pa_cons (pv 4) (pa_cons (pv 4) pa_nil))))) (pw_or (pt_not (pt_val (pe_cl c_law_checked hr (by decide) (by rfl) (pa_cons pe_int (pa_cons (pv 4) pa_nil))))) (pw_or1 (pt_not (pt_val (pe_cl c_law_checked hr (by decide) (by rfl) (pa_cons (pv 4) (pa_cons pe_int pa_nil))))))))) (pss_one (ps_ret pe_bl)) pss_nil)))
      (pss_cons (ps_set (i := 5) sc_law.nd rfl (.inl rfl) (pe_op op_cat (pe_lst (pa_cons (pe_tup (pa_cons pe_int (pa_cons pe_int pa_nil))) (pa_cons (pe_tup (pa_cons pe_int (pa_cons pe_int pa_nil))) (pa_cons (pe_tup (pa_cons pe_int (pa_cons pe_int pa_nil))) (pa_cons (pe_tup (pa_cons pe_int (pa_cons pe_int pa_nil))) pa_nil))))) (pe_lc (own := [("n", 10)]) rfl sc_law.nd (pi_range1 (by rfl) T.range (pa_cons pe_int pa_nil)) (blkOk_by (own := [("n", 10)]) (N := ["script", "m", "odds", "near", "heap", "rows_here", "told", "one", "kept", "far", "n", "two"]) (sc := defScope s_law) (by decide +kernel)) (fun _ _ _ _ _ => (pg_name (i := 10) sc_law.nd rfl (Or.inl rfl))) (fun _ _ _ _ _ => pts_nil) (fun _ _ _ _ _ => (pe_cl c_law_pair hr (by decide) (by rfl) (pa_cons (pv 1) (pa_cons pe_int (pa_cons pe_int pa_nil))))))))
      (pss_cons (ps_set (i := 5) sc_law.nd rfl (.inl rfl) (pe_op op_cat (pv 5) (pe_lc (own := [("n", 10)]) rfl sc_law.nd (pi_range1 (by rfl) T.range (pa_cons pe_int pa_nil)) (blkOk_by (own := [("n", 10)]) (N := ["script", "m", "odds", "near", "heap", "rows_here", "told", "one", "kept", "far", "n", "two"]) (sc := defScope s_law) (by decide +kernel)) (fun _ _ _ _ _ => (pg_name (i := 10) sc_law.nd rfl (Or.inl rfl))) (fun _ _ _ _ _ => pts_nil) (fun _ _ _ _ _ => (pe_cl c_law_pair hr (by decide) (by rfl) (pa_cons (pv 1) (pa_cons pe_int (pa_cons pe_int pa_nil))))))))
      (pss_cons (ps_if (pt_cmpR (op_neD hr.units) (pe_lc (own := [("near", 3), ("far", 9)]) rfl sc_law.nd (pi_list (pv 5)) (blkOk_by (own := [("near", 3), ("far", 9)]) (N := ["script", "m", "odds", "near", "heap", "rows_here", "told", "one", "kept", "far", "n", "two"]) (sc := defScope s_law) (by decide +kernel)) (fun _ _ _ _ _ => (show PG _ _ (gTup K 2 (gCons (gName 3) (gCons (gName 9) gNil))) from pg_tup (n := 2) rfl (pgs_cons (pg_name (i := 3) sc_law.nd rfl (Or.inl rfl)) (pgs_cons (pg_name (i := 9) sc_law.nd rfl (Or.inl rfl)) pgs_nil)))) (fun _ _ _ _ _ => (pts_one (pt_not (pt_val (pe_clG c_law_right hr (by decide) hgd (by rfl) (pa_cons (pv 3) (pa_cons (pv 9) pa_nil))))))) (fun _ _ _ _ _ => pe_int)) (pe_lst pa_nil) (nomark _)) (pss_one (ps_ret pe_bl)) pss_nil)
      (pss_cons (ps_setLc (i := 6) (own := [("near", 3), ("far", 9)]) rfl sc_law.nd rfl rfl (sw_true rfl rfl rfl (by decide +kernel)) (pi_list (pv 5)) (blkOk_by (own := [("near", 3), ("far", 9)]) (N := ["script", "m", "odds", "near", "heap", "rows_here", "told", "one", "kept", "far", "n", "two"]) (sc := defScope s_law) (by decide +kernel)) (fun _ _ _ _ _ => (show PG _ _ (gTup K 2 (gCons (gName 3) (gCons (gName 9) gNil))) from pg_tup (n := 2) rfl (pgs_cons (pg_name (i := 3) sc_law.nd rfl (Or.inl rfl)) (pgs_cons (pg_name (i := 9) sc_law.nd rfl (Or.inl rfl)) pgs_nil)))) (fun _ _ _ _ _ => pts_nil) (fun _ _ _ _ _ => (pe_mkR mk_Ticket hr (by decide) (by rfl) pass0 (pa_cons (pv 3) (pa_cons (pv 9) pa_nil)))))
      (pss_cons (ps_for PassesOwn.never rfl (pi_list (pv 6)) (pg_name (i := 7) sc_law.nd rfl (.inr rfl)) (pss_one (ps_if (pt_cmpR (op_neD hr.units) (pe_lc (own := [("two", 11)]) rfl sc_law.nd (pi_list (pv 6)) (blkOk_by (own := [("two", 11)]) (N := ["script", "m", "odds", "near", "heap", "rows_here", "told", "one", "kept", "far", "n", "two"]) (sc := defScope s_law) (by decide +kernel)) (fun _ _ _ _ _ => (pg_name (i := 11) sc_law.nd rfl (Or.inl rfl))) (fun _ _ _ _ _ => (pts_one (pt_not (pt_val (pe_clG c_law_compared hr (by decide) hgd (by rfl) (pa_cons (pv 7) (pa_cons (pv 11) pa_nil))))))) (fun _ _ _ _ _ => pe_int)) (pe_lst pa_nil) (nomark _)) (pss_one (ps_ret pe_bl)) pss_nil)))
      (pss_cons (ps_setLc (i := 8) (own := [("one", 7)]) rfl sc_law.nd rfl rfl (sw_true rfl rfl rfl (by decide +kernel)) (pi_list (pv 6)) (blkOk_by (own := [("one", 7)]) (N := ["script", "m", "odds", "near", "heap", "rows_here", "told", "one", "kept", "far", "n", "two"]) (sc := defScope s_law) (by decide +kernel)) (fun _ _ _ _ _ => (pg_name (i := 7) sc_law.nd rfl (Or.inl rfl))) (fun _ _ _ _ _ => pts_nil) (fun _ _ _ _ _ => (pe_tup (pa_cons (pe_pr (pv 7) P_x hr (by decide) rfl) (pa_cons (pe_pr (pv 7) P_y hr (by decide) rfl) pa_nil)))))
      (pss_cons (ps_if (PW.pt (pw_or (pt_cmpR (op_neD hr.units) (pe_lc (own := [("one", 7)]) rfl sc_law.nd (pi_list (pe_cl c_ord1 hr (by decide) (by rfl) (pa_cons (pv 6) pa_nil))) (blkOk_by (own := [("one", 7)]) (N := ["script", "m", "odds", "near", "heap", "rows_here", "told", "one", "kept", "far", "n", "two"]) (sc := defScope s_law) (by decide +kernel)) (fun _ _ _ _ _ => (pg_name (i := 7) sc_law.nd rfl (Or.inl rfl))) (fun _ _ _ _ _ => pts_nil) (fun _ _ _ _ _ => (pe_tup (pa_cons (pe_pr (pv 7) P_x hr (by decide) rfl) (pa_cons (pe_pr (pv 7) P_y hr (by decide) rfl) pa_nil))))) (pe_cl c_ord2 hr (by decide) (by rfl) (pa_cons (pv 5) pa_nil)) (nomark _)) (pw_or1 (pt_cmpR op_ne (ClX.pe_cval (pe_glob (v := .ref cT) (by rfl) T.mg_Ticket rfl)) pe_int (nomark _))))) (pss_one (ps_ret pe_bl)) pss_nil)
      (pss_one (ps_ret (pe_cmpR (op_eqD hr.units) (pe_lc (own := [("one", 7)]) rfl sc_law.nd (pi_list (pv 6)) (blkOk_by (own := [("one", 7)]) (N := ["script", "m", "odds", "near", "heap", "rows_here", "told", "one", "kept", "far", "n", "two"]) (sc := defScope s_law) (by decide +kernel)) (fun _ _ _ _ _ => (pg_name (i := 7) sc_law.nd rfl (Or.inl rfl))) (fun _ _ _ _ _ => pts_nil) (fun _ _ _ _ _ => (pe_tup (pa_cons (pe_pr (pv 7) P_x hr (by decide) rfl) (pa_cons (pe_pr (pv 7) P_y hr (by decide) rfl) pa_nil))))) (pv 8) (nomark _))))))))))))))), ?_⟩
    walk_at "rd"
    refine ⟨a, ns, rfl, hS, by omega, fun H1 dm dc dg sm1 ndm ndg M => ?_⟩
    refine ⟨by decide, fun t1 n1 => ⟨by decide, fun l1 n2 d1 n3 => ⟨⟨by decide, by decide, by decide⟩, by decide, fun lo n4 => ?_⟩⟩⟩
    have q1 := same_upd (o := .tup [.int 3]) n1
    have q2 := same_upd (o := .lst [.int 3]) n2
    have q3 := same_upd (o := .dK []) n3
    have q4 := same_upd (o := .lst [V.int 0, V.int 1, V.int 15, V.int 29, V.int 30, V.int 31, V.int (0 - 1), V.bl true, V.bl false, V.non, V.str "3", V.ref t1, V.ref l1, V.ref d1, V.int (10 ^ Int.toNat 30), V.str ""]) n4
    have smA := sm1.trans (q1.trans (q2.trans (q3.trans q4)))
    have MA := M.same (q1.trans (q2.trans (q3.trans q4)))
    have tbA := tb.ext smA
    have e1 := q4 _ _ (q3 _ _ (q2 _ _ upd_same))
    have e2 := q4 _ _ (q3 _ _ upd_same)
    have e3 := q4 _ _ upd_same
    have eo : upd (upd (upd (upd H1 t1 (.tup [.int 3])) l1 (.lst [.int 3])) d1 (.dK [])) lo (.lst [V.int 0, V.int 1, V.int 15, V.int 29, V.int 30, V.int 31, V.int (0 - 1), V.bl true, V.bl false, V.non, V.str "3", V.ref t1, V.ref l1, V.ref d1, V.int (10 ^ Int.toNat 30), V.str ""]) lo = some (.lst [V.int 0, V.int 1, V.int 15, V.int 29, V.int 30, V.int 31, V.int (0 - 1), V.bl true, V.bl false, V.non, V.str "3", V.ref t1, V.ref l1, V.ref d1, V.int (10 ^ Int.toNat 30), V.str ""]) := upd_same
    generalize upd (upd (upd (upd H1 t1 (.tup [.int 3])) l1 (.lst [.int 3])) d1 (.dK [])) lo (.lst [V.int 0, V.int 1, V.int 15, V.int 29, V.int 30, V.int 31, V.int (0 - 1), V.bl true, V.bl false, V.non, V.str "3", V.ref t1, V.ref l1, V.ref d1, V.int (10 ^ Int.toNat 30), V.str ""]) = HA at smA MA tbA e1 e2 e3 eo ⊢
    have all : ∀ o ∈ [V.int 0, V.int 1, V.int 15, V.int 29, V.int 30, V.int 31, V.int (0 - 1), V.bl true, V.bl false, V.non, V.str "3", V.ref t1, V.ref l1, V.ref d1, V.int (10 ^ Int.toNat 30), V.str ""], An K HA o := by
      intro o ho
      simp only [List.mem_cons, List.not_mem_nil, or_false] at ho
      rcases ho with rfl | rfl | rfl | rfl | rfl | rfl | rfl | rfl | rfl | rfl | rfl | rfl | rfl | rfl | rfl | rfl
      · exact an_int _
      · exact an_int _
      · exact an_int _
      · exact an_int _
      · exact an_int _
      · exact an_int _
      · exact an_int _
      · exact an_bl _
      · exact an_bl _
      · exact an_non
      · exact an_str _
      · exact an_tup e1
      · exact an_lst e2
      · exact an_dK e3
      · exact an_int _
      · exact an_str _
    generalize [V.int 0, V.int 1, V.int 15, V.int 29, V.int 30, V.int 31, V.int (0 - 1), V.bl true, V.bl false, V.non, V.str "3", V.ref t1, V.ref l1, V.ref d1, V.int (10 ^ Int.toNat 30), V.str ""] = os at all eo
    clear q1 q2 q3 q4 e1 e2 e3 n1 n2 n3 n4 M ndm ndg
    refine ⟨.ref lo, rfl, lo, rfl, ⟨_, SqL.of eo⟩, for_list (xs := os) (fun i σ H' => ∃ v3 : Option V, σ = [some (.ref a), some (.ref dm), some (.ref lo), v3, none, none, none, none, none, none, none, none] ∧ Stay (tabs P1 P2) HA H')
      ⟨_, rfl, Stay.refl tbA⟩ (fun i σ H' _ ⟨_, _, st⟩ => SqL.of (ex_at st.ex eo)) ?_ ?_⟩
    · rintro i x σ H2 hx ⟨v3, rfl, st⟩
      have ax := (all x (List.mem_of_getElem? hx)).ex st.ex
      have eo2 := ex_at st.ex eo
      walk_at "rd"
      refine ⟨.ref lo, rfl, lo, rfl, ⟨_, SqL.of eo2⟩, fun D nD => lc_list (xs := os) (fun j H' => Stay (tabs P1 P2) H2 H' ∧ H' D = some (.lst [])) ⟨(Stay.refl st.tb).same (same_upd nD), upd_same⟩ (fun j H' _ ⟨s1, _⟩ => SqL.of (ex_at s1.ex eo2)) (fun j y H3 hy ⟨s1, hD⟩ => ?_) (fun H3 ⟨s1, hD⟩ => ?_)⟩
      · have ay := (all y (List.mem_of_getElem? hy)).ex (st.ex.trans s1.ex)
        walk_at "rd"
        exact ⟨x, y, rfl, ax.ex s1.ex, ay, s1.tb, fun H4 s2 => ⟨_, rfl, iteF ⟨s1.trans s2, ex_at s2.ex hD⟩⟩⟩
      · walk_at "rd"
        refine ⟨Nat.zero_le _, fun l9 m9 => ?_⟩
        have s9 := same_upd (o := .lst []) m9
        refine ⟨.list [], dp_nil (SqL.of (s9 _ _ hD)), .list [], dp_nil (SqL.of upd_same), shaped_nil, shaped_nil, ?_⟩
        rw [nil_eqv]
        exact iteF ⟨⟨_, rfl⟩, (st.trans s1).same s9⟩
    · rintro σ H2 ⟨v3, rfl, st⟩
      clear all eo
      have M2 := mat_ex MA st.ex
      have tb2 := st.tb
      clear MA tbA st smA sm1 hS tb
      walk_at "rd"
      refine ⟨0, rfl, .inl rfl, fun H3 r1 sm3 nr1 er1 => ⟨1, rfl, .inr rfl, fun H4 r2 sm4 nr2 er2 => ⟨by show 2 ≤ sizeLine; decide, fun tp np => ?_⟩⟩⟩
      have s5 := same_upd (o := .tup [.ref r1, .ref r2]) np
      have smB := sm3.trans (sm4.trans s5)
      have M5 := M2.same smB
      have tb5 := tb2.ext smB
      have a1 : An K (upd H4 tp (.tup [.ref r1, .ref r2])) (.ref r1) := er1.elim (fun ⟨_, z⟩ => an_tup (s5 _ _ (sm4 _ _ z))) fun ⟨_, z⟩ => an_lst (s5 _ _ (sm4 _ _ z))
      have a2 : An K (upd H4 tp (.tup [.ref r1, .ref r2])) (.ref r2) := er2.elim (fun ⟨_, z⟩ => an_tup (s5 _ _ z)) fun ⟨_, z⟩ => an_lst (s5 _ _ z)
      have et : upd H4 tp (.tup [.ref r1, .ref r2]) tp = some (.tup [.ref r1, .ref r2]) := upd_same
      refine ⟨tp, rfl, ⟨_, SqT.of et⟩, ?_⟩
      generalize upd H4 tp (.tup [.ref r1, .ref r2]) = H5 at M5 tb5 a1 a2 et ⊢
      have all : ∀ o ∈ [V.ref r1, V.ref r2], An K H5 o := by
        intro o ho
        simp only [List.mem_cons, List.not_mem_nil, or_false] at ho
        rcases ho with rfl | rfl
        · exact a1
        · exact a2
      generalize [V.ref r1, V.ref r2] = os at all et
      clear a1 a2 smB s5 np er1 er2 sm3 sm4 nr1 nr2 M2 tb2
      refine for_tup (xs := os) (fun i σ H' => ∃ v4 : Option V, σ = [some (.ref a), some (.ref dm), some (.ref lo), v3, v4, none, none, none, none, none, none, none] ∧ Stay (tabs P1 P2) H5 H')
        ⟨_, rfl, Stay.refl tb5⟩ (fun i σ H' _ ⟨_, _, st⟩ => SqT.of (ex_at st.ex et)) ?_ ?_
      · rintro i x σ H6 hx ⟨v4, rfl, st⟩
        have ax := (all x (List.mem_of_getElem? hx)).ex st.ex
        walk_at "rd"
        refine ⟨x, x, rfl, ax, ax, st.tb, fun H7 s7 => ⟨_, rfl, iteF ?_⟩⟩
        walk_at "rd"
        refine ⟨.int 3, x, rfl, an_int _, ax.ex s7.ex, s7.tb, fun H8 s8 => ⟨_, rfl, iteF ?_⟩⟩
        walk_at "rd"
        exact ⟨x, .int 3, rfl, (ax.ex s7.ex).ex s8.ex, an_int _, s8.tb, fun H9 s9 => ⟨_, rfl, iteF ⟨⟨_, rfl⟩, ((st.trans s7).trans s8).trans s9⟩⟩⟩
      · rintro σ H6 ⟨v4, rfl, st⟩
        have M6 := mat_ex M5 st.ex
        have tb6 := st.tb
        clear all et M5 tb5 st
        walk_at "rd"
        refine ⟨by decide, fun u1 m1 => ⟨by decide, fun u2 m2 => ⟨by decide, fun u3 m3 => ⟨by decide, fun u4 m4 => ⟨by decide, fun l4 m5 => ?_⟩⟩⟩⟩⟩
        have q1 := same_upd (o := .tup [.int 0, .int 0]) m1
        have q2 := same_upd (o := .tup [.int 30, .int 0]) m2
        have q3 := same_upd (o := .tup [.int 0, .int 30]) m3
        have q4 := same_upd (o := .tup [.int 30, .int 30]) m4
        have q5 := same_upd (o := .lst [.ref u1, .ref u2, .ref u3, .ref u4]) m5
        have smC := q1.trans (q2.trans (q3.trans (q4.trans q5)))
        have M7 := M6.same smC
        have tb7 := tb6.ext smC
        have n4g : l4 ≠ dg := (M6.same (q1.trans (q2.trans (q3.trans q4)))).ng m5
        have hz : isH 0 := ⟨by decide, by decide⟩
        have ht : isH 30 := ⟨by decide, by decide⟩
        have r1 : RowAt _ u1 := ⟨0, 0, q5 _ _ (q4 _ _ (q3 _ _ (q2 _ _ upd_same))), hz, hz⟩
        have r2 : RowAt _ u2 := ⟨30, 0, q5 _ _ (q4 _ _ (q3 _ _ upd_same)), ht, hz⟩
        have r3 : RowAt _ u3 := ⟨0, 30, q5 _ _ (q4 _ _ upd_same), hz, ht⟩
        have r4 : RowAt _ u4 := ⟨30, 30, q5 _ _ upd_same, ht, ht⟩
        have e4 : upd (upd (upd (upd (upd H6 u1 (.tup [.int 0, .int 0])) u2 (.tup [.int 30, .int 0])) u3 (.tup [.int 0, .int 30])) u4 (.tup [.int 30, .int 30])) l4 (.lst [.ref u1, .ref u2, .ref u3, .ref u4]) l4 = some (.lst ([u1, u2, u3, u4].map V.ref)) := upd_same
        generalize upd (upd (upd (upd (upd H6 u1 (.tup [.int 0, .int 0])) u2 (.tup [.int 30, .int 0])) u3 (.tup [.int 0, .int 30])) u4 (.tup [.int 30, .int 30])) l4 (.lst [.ref u1, .ref u2, .ref u3, .ref u4]) = H7 at M7 tb7 r1 r2 r3 r4 e4 ⊢
        have rows : ∀ t ∈ [u1, u2, u3, u4], RowAt H7 t := by
          intro t ht
          simp only [List.mem_cons, List.not_mem_nil, or_false] at ht
          rcases ht with rfl | rfl | rfl | rfl <;> assumption
        have hl4 : [u1, u2, u3, u4].length = 4 := rfl
        generalize [u1, u2, u3, u4] = fs at e4 rows hl4
        clear q1 q2 q3 q4 q5 m1 m2 m3 m4 m5 smC M6 tb6 r1 r2 r3 r4
        refine ⟨6, rfl, by decide, by decide, fun D nD => lc_range (lo := 0) (n := 6) (PairInv H7 dm dc dg D 0) ⟨(Kp.refl dm dg H7).put nD, M7.put (M7.nm nD) (M7.nc nD) (M7.ng nD), [], upd_same, rfl, fun t ht => by cases ht⟩ (fun i H8 hi inv => ?_) (fun H8 inv => ?_)⟩
        · walk_at "rd"
          obtain ⟨_, m8, _⟩ := id inv
          refine ⟨dm, dc, dg, 0, 30, 0 + 2 * i, rfl, m8, by omega, by decide, by decide, by decide, fun H9 p x y kp m9 np ep x1 x2 y1 y2 => ?_⟩
          exact pair_step M7 nD inv kp m9 np ep ⟨by omega, by omega⟩ ⟨by omega, by omega⟩ (by omega)
        · walk_at "rd"
          obtain ⟨k8, m8, ps, hD, hlp, hrp⟩ := inv
          have n4m : l4 ≠ dm := by
            obtain ⟨n', cs, gs, hn, h1, _⟩ := M7.ex
            exact ne_of e4 h1 (by intro z; cases z)
          have e48 := k8.at_ _ _ e4 n4m n4g
          have tb8 := tabs_kp tb7 M7 k8
          have rows8 : ∀ t ∈ fs ++ ps, RowAt H8 t := fun t ht => by
            rcases List.mem_append.mp ht with ht | ht
            · exact (rows t ht).kp M7 k8
            · exact hrp t ht
          refine ⟨l4, D, _, _, rfl, rfl, e48, hD, ?_, fun p np => ?_⟩
          · rw [List.length_map, List.length_map, hl4, hlp]
            decide
          rw [← List.map_append]
          have q1 := same_upd (o := .lst ((fs ++ ps).map V.ref)) np
          have e9 : upd H8 p (.lst ((fs ++ ps).map V.ref)) p = some (.lst ((fs ++ ps).map V.ref)) := upd_same
          have M9 := m8.same q1
          have tb9 := tb8.ext q1
          have npg : p ≠ dg := m8.ng np
          have rows9 : ∀ t ∈ fs ++ ps, RowAt (upd H8 p (.lst ((fs ++ ps).map V.ref))) t := fun t ht => (rows8 t ht).ex (Ex.of_same q1)
          have hl9 : (fs ++ ps).length = 10 := by rw [List.length_append, hl4, hlp]
          generalize upd H8 p (.lst ((fs ++ ps).map V.ref)) = H9 at e9 M9 tb9 rows9 ⊢
          generalize fs ++ ps = gs at e9 rows9 hl9
          clear q1 np rows8 tb8 e48 n4m hrp hlp hD m8 k8 rows hl4 e4 n4g M7 tb7 nD fs ps
          refine ⟨10, rfl, by decide, by decide, fun D2 nD2 => lc_range (lo := 0) (n := 10) (PairInv H9 dm dc dg D2 12) ⟨(Kp.refl dm dg H9).put nD2, M9.put (M9.nm nD2) (M9.nc nD2) (M9.ng nD2), [], upd_same, rfl, fun t ht => by cases ht⟩ (fun i H10 hi inv => ?_) (fun H10 inv => ?_)⟩
          · walk_at "rd"
            obtain ⟨_, m10, _⟩ := id inv
            refine ⟨dm, dc, dg, 4, 6, 12 + 2 * i, rfl, m10, by omega, by decide, by decide, by decide, fun H11 q x y kp m11 np ep x1 x2 y1 y2 => ?_⟩
            exact pair_step M9 nD2 inv kp m11 np ep ⟨by omega, by omega⟩ ⟨by omega, by omega⟩ (by omega)
          · walk_at "rd"
            obtain ⟨k10, m10, ps, hD, hlp, hrp⟩ := inv
            have npm : p ≠ dm := by
              obtain ⟨n', cs, gs, hn, h1, _⟩ := M9.ex
              exact ne_of e9 h1 (by intro z; cases z)
            have e10 := k10.at_ _ _ e9 npm npg
            have tb10 := tabs_kp tb9 M9 k10
            have rows10 : ∀ t ∈ gs ++ ps, RowAt H10 t := fun t ht => by
              rcases List.mem_append.mp ht with ht | ht
              · exact (rows9 t ht).kp M9 k10
              · exact hrp t ht
            refine ⟨p, D2, _, _, rfl, rfl, e10, hD, ?_, fun lr nlr => ?_⟩
            · rw [List.length_map, List.length_map, hl9, hlp]
              decide
            rw [← List.map_append]
            have q1 := same_upd (o := .lst ((gs ++ ps).map V.ref)) nlr
            have er : upd H10 lr (.lst ((gs ++ ps).map V.ref)) lr = some (.lst ((gs ++ ps).map V.ref)) := upd_same
            have tbR := tb10.ext q1
            have rows : ∀ t ∈ gs ++ ps, RowAt (upd H10 lr (.lst ((gs ++ ps).map V.ref))) t := fun t ht => (rows10 t ht).ex (Ex.of_same q1)
            have hlr : (gs ++ ps).length = 20 := by rw [List.length_append, hl9, hlp]
            generalize upd H10 lr (.lst ((gs ++ ps).map V.ref)) = HR at er tbR rows ⊢
            generalize gs ++ ps = rs at er rows hlr
            clear q1 nlr rows10 tb10 e10 npm hrp hlp hD m10 k10 rows9 hl9 e9 npg M9 tb9 nD2 gs ps
            have hkr : ∀ t ∈ rs, HR t = some (.tup [.int (keyH HR t).1, .int (keyH HR t).2]) ∧ isH (keyH HR t).1 ∧ isH (keyH HR t).2 := fun t ht => (rows t ht).key
            clear rows
            generalize keyH HR = kr at hkr
            refine ⟨.ref lr, rfl, lr, rfl, ⟨_, SqL.of er⟩, fun D nD => lc_list (xs := rs.map V.ref) (fun j H' => Stay (tabs P1 P2) HR H' ∧ H' D = some (.lst [])) ⟨(Stay.refl tbR).same (same_upd nD), upd_same⟩ (fun j H' _ ⟨s1, _⟩ => SqL.of (ex_at s1.ex er)) (fun j x H3 hx ⟨s1, hD⟩ => ?_) (fun H3 ⟨s1, hD⟩ => ?_)⟩
            · obtain ⟨t, ht, rfl⟩ := ref_at hx
              obtain ⟨et, h1, h2⟩ := hkr t (List.mem_of_getElem? ht)
              walk_at "rd"
              refine ⟨_, SqT.of (ex_at s1.ex et), rfl, _, _, rfl, _, _, rfl, rfl, ?_⟩
              walk_at "rd"
              exact ⟨_, _, rfl, h1, h2, s1.tb, fun H4 s2 => ⟨_, rfl, iteF ⟨s1.trans s2, ex_at s2.ex hD⟩⟩⟩
            · walk_at "rd"
              refine ⟨Nat.zero_le _, fun l9 m9 => ?_⟩
              have s9 := same_upd (o := .lst []) m9
              refine ⟨.list [], dp_nil (SqL.of (s9 _ _ hD)), .list [], dp_nil (SqL.of upd_same), shaped_nil, shaped_nil, ?_⟩
              rw [nil_eqv]
              refine iteF ?_
              have er2 := s9 _ _ (ex_at s1.ex er)
              have hkr2 : ∀ t ∈ rs, (upd H3 l9 (.lst [])) t = some (.tup [.int (kr t).1, .int (kr t).2]) ∧ isH (kr t).1 ∧ isH (kr t).2 := fun t ht => ⟨s9 _ _ (ex_at s1.ex (hkr t ht).1), (hkr t ht).2⟩
              generalize upd H3 l9 (.lst []) = HS at er2 hkr2 ⊢
              clear hkr er s9 m9 hD s1 tbR nD
              refine ⟨.ref lr, rfl, lr, rfl, ⟨_, SqL.of er2⟩, fun D nD => lc_list (xs := rs.map V.ref) (fun j H' => Same HS H' ∧ ∃ ts : List Addr, H' D = some (.lst (ts.map V.ref)) ∧ Paired (fun t r => TkAt cT H' t (kr r).1 (kr r).2) ts (rs.take j)) ⟨same_upd nD, [], upd_same, .nil⟩
                (fun j H' _ ⟨s1, _⟩ => SqL.of (s1 _ _ er2)) (fun j x H4 hx ⟨s1, ts, hD, hp⟩ => ?_) (fun H4 ⟨s1, ts, hD, hp⟩ => ?_)⟩
              · obtain ⟨t, ht, rfl⟩ := ref_at hx
                obtain ⟨et, h1, h2⟩ := hkr2 t (List.mem_of_getElem? ht)
                walk_at "rd"
                refine ⟨_, SqT.of (s1 _ _ et), rfl, _, _, rfl, _, _, rfl, rfl, ?_⟩
                walk_at "rd"
                intro q dq nq ndq neq
                refine ⟨q, dq, _, _, rfl, upd_same, h1, h2, rfl, ?_⟩
                have M := tk_made (cT := cT) (x := (kr t).1) (y := (kr t).2) nq ndq neq
                generalize upd (upd (upd H4 dq (.own q)) q (.ins cT dq [])) q (.ins cT dq (tf (kr t).1 (kr t).2)) = H5 at M ⊢
                obtain ⟨sM, tM⟩ := M
                have hD5 := sM _ _ hD
                have keepT : ∀ {u : Addr} {x y : Int} {o : HO}, TkAt cT H5 u x y → TkAt cT (upd H5 D o) u x y := fun {u x y o} ⟨dx, e⟩ => ⟨dx, by rw [upd_ne (ne_of e hD5 (by intro z; cases z))]; exact e⟩
                refine ⟨_, hD5, ?_, fun b o e => ?_, ts ++ [q], ?_, ?_⟩
                · rw [List.length_map, hp.length, List.length_take]
                  exact small1000 (by omega)
                · rw [upd_ne (ne_of_none e nD)]
                  exact sM _ _ (s1 _ _ e)
                · rw [upd_same, List.map_append]
                  rfl
                · rw [List.take_add_one, ht]
                  exact Paired.snoc (Paired.mono (fun u r e => keepT (e.same sM)) hp) (keepT tM)
              · walk_at "rd"
                rw [List.length_map, List.take_length] at hp
                have hlt : ts.length = 20 := by rw [hp.length, hlr]
                obtain ⟨keys, tks⟩ := paired_keys hp
                have er3 := s1 _ _ er2
                have hkr3 : ∀ t ∈ rs, H4 t = some (.tup [.int (kr t).1, .int (kr t).2]) := fun t ht => s1 _ _ (hkr2 t ht).1
                generalize keyT H4 = kt at keys tks
                clear hp hkr2 er2 s1 nD
                refine ⟨.ref D, rfl, D, rfl, ⟨_, SqL.of hD⟩, for_list (xs := ts.map V.ref) (fun i σ H' => ∃ v7 : Option V, σ = [some (.ref a), some (.ref dm), some (.ref lo), v3, v4, some (.ref lr), some (.ref D), v7, none, none, none, none] ∧ Same H4 H')
                  ⟨_, rfl, Same.refl H4⟩ (fun i σ H' _ ⟨_, _, s1⟩ => SqL.of (s1 _ _ hD)) ?_ ?_⟩
                · rintro i x σ H5 hx ⟨v7, rfl, s5⟩
                  obtain ⟨t, ht, rfl⟩ := ref_at hx
                  have tk1 := (tks t (List.mem_of_getElem? ht)).same s5
                  have hD5 := s5 _ _ hD
                  walk_at "rd"
                  refine ⟨.ref D, rfl, D, rfl, ⟨_, SqL.of hD5⟩, fun E2 nE => lc_list (xs := ts.map V.ref) (fun j H' => Same H5 H' ∧ H' E2 = some (.lst [])) ⟨same_upd nE, upd_same⟩ (fun j H' _ ⟨s1, _⟩ => SqL.of (s1 _ _ hD5)) (fun j y H6 hy ⟨s6, hE⟩ => ?_) (fun H6 ⟨s6, hE⟩ => ?_)⟩
                  · obtain ⟨t2, ht2, rfl⟩ := ref_at hy
                    have tk2 := (tks t2 (List.mem_of_getElem? ht2)).same (s5.trans s6)
                    walk_at "rd"
                    exact ⟨t, t2, _, _, _, _, rfl, tk1.same s6, tk2, fun H7 s7 => ⟨_, rfl, iteF ⟨s6.trans s7, s7 _ _ hE⟩⟩⟩
                  · walk_at "rd"
                    refine ⟨Nat.zero_le _, fun l9 m9 => ?_⟩
                    have s9 := same_upd (o := .lst []) m9
                    refine ⟨.list [], dp_nil (SqL.of (s9 _ _ hE)), .list [], dp_nil (SqL.of upd_same), shaped_nil, shaped_nil, ?_⟩
                    rw [nil_eqv]
                    exact iteF ⟨⟨_, rfl⟩, s5.trans (s6.trans s9)⟩
                · rintro σ H5 ⟨v7, rfl, s5⟩
                  have hD5 := s5 _ _ hD
                  have er5 := s5 _ _ er3
                  have tk5 : ∀ t ∈ ts, TkAt cT H5 t (kt t).1 (kt t).2 := fun t ht => (tks t ht).same s5
                  have hr5 : ∀ t ∈ rs, H5 t = some (.tup [.int (kr t).1, .int (kr t).2]) := fun t ht => s5 _ _ (hkr3 t ht)
                  clear tks hkr3 er3 hD s5
                  walk_at "rd"
                  refine ⟨.ref D, rfl, D, rfl, ⟨_, SqL.of hD5⟩, fun E2 nE => lc_list (xs := ts.map V.ref) (ReadInv kt ts H5 E2) ⟨same_upd nE, [], upd_same, .nil⟩ (fun j H' _ inv => SqL.of (inv.1 _ _ hD5)) (fun j y H6 hy inv => ?_) (fun H6 inv => ?_)⟩
                  · obtain ⟨t, ht, rfl⟩ := ref_at hy
                    have tk6 := (tk5 t (List.mem_of_getElem? ht)).same inv.1
                    obtain ⟨dx, e⟩ := id tk6
                    walk_at "rd"
                    exact ⟨⟨_, _, e⟩, t, _, _, rfl, tk6, ⟨_, _, e⟩, t, _, _, rfl, tk6, by decide, fun u nu => read_turn inv ht nE nu (by omega)⟩
                  · obtain ⟨s6, us, hE, hpu⟩ := inv
                    rw [List.length_map, List.take_length] at hpu
                    walk_at "rd"
                    have hD6 := s6 _ _ hD5
                    have tk6 : ∀ t ∈ ts, TkAt cT H6 t (kt t).1 (kt t).2 := fun t ht => (tk5 t ht).same s6
                    refine ⟨.ref D, rfl, D, ts, kt, rfl, SqL.of hD6, by omega, tk6, fun H7 l sm7 nl el => ?_⟩
                    have hol := ord_len (fun s t => ltP (kt s) (kt t)) ts
                    have hom : ∀ t ∈ ordA (fun s t => ltP (kt s) (kt t)) ts, t ∈ ts := fun t ht => ord_mem ht
                    have hok := ord_map kt ltP ts
                    generalize ordA (fun s t => ltP (kt s) (kt t)) ts = oa at el hol hom hok
                    have tk7 : ∀ t ∈ ts, TkAt cT H7 t (kt t).1 (kt t).2 := fun t ht => (tk6 t ht).same sm7
                    refine ⟨l, rfl, ⟨_, SqL.of el⟩, fun D3 nD3 => lc_list (xs := oa.map V.ref) (ReadInv kt oa H7 D3) ⟨same_upd nD3, [], upd_same, .nil⟩ (fun j H' _ inv => SqL.of (inv.1 _ _ el)) (fun j y H8 hy inv => ?_) (fun H8 inv => ?_)⟩
                    · obtain ⟨t, ht, rfl⟩ := ref_at hy
                      have tk8 := (tk7 t (hom t (List.mem_of_getElem? ht))).same inv.1
                      obtain ⟨dx, e⟩ := id tk8
                      walk_at "rd"
                      exact ⟨⟨_, _, e⟩, t, _, _, rfl, tk8, ⟨_, _, e⟩, t, _, _, rfl, tk8, by decide, fun u nu => read_turn inv ht nD3 nu (by omega)⟩
                    · obtain ⟨s8, vs3, hD3, hp3⟩ := inv
                      rw [List.length_map, List.take_length] at hp3
                      walk_at "rd"
                      have s58 := s6.trans (sm7.trans s8)
                      refine ⟨lr, rs, kr, rfl, SqL.of (s58 _ _ er5), by omega, fun t ht => s58 _ _ (hr5 t ht), fun H9 l2 sm9 nl2 el2 => ?_⟩
                      have hom2 : ∀ t ∈ ordA (fun s t => ltP (kr s) (kr t)) rs, t ∈ rs := fun t ht => ord_mem ht
                      have hok2 := ord_map kr ltP rs
                      generalize ordA (fun s t => ltP (kr s) (kr t)) rs = ob at el2 hom2 hok2
                      have eq : oa.map kt = ob.map kr := by rw [hok, hok2, keys]
                      have D1 : Dp K H9 (.ref D3) (.list ((oa.map kt).map pdP)) := .lst (SqL.of (sm9 _ _ hD3)) (dp_read_pairs (Paired.mono (fun u t e => sm9 _ _ e) hp3))
                      have D2 : Dp K H9 (.ref l2) (.list ((ob.map kr).map pdP)) := .lst (SqL.of el2) (dp_own_pairs fun t ht => (s58.trans sm9) _ _ (hr5 t (hom2 t ht)))
                      rw [← eq] at D2
                      refine ⟨_, D1, _, D2, shaped_pairs _, shaped_pairs _, ?_⟩
                      have ev : ∀ q : List (Int × Int), PyData.eqv (.list (q.map pdP)) (.list (q.map pdP)) = true := fun q => by
                        simp only [PyData.eqv, eqv_pairs]
                      rw [ev]
                      obtain ⟨mc, u, cr, cv⟩ := T.maxT
                      refine iteF ⟨mc, cr, _, ⟨u, cv⟩, rfl, iteNS rfl ?_⟩
                      have s69 := (sm7.trans s8).trans sm9
                      have hD9 := s69 _ _ hD6
                      have hE9 := s69 _ _ hE
                      have tk9 : ∀ t ∈ ts, TkAt cT H9 t (kt t).1 (kt t).2 := fun t ht => (tk6 t ht).same s69
                      have hp9 : Paired (fun u t => H9 u = some (.tup [.int (kt t).1, .int (kt t).2])) us ts := Paired.mono (fun u t e => s69 _ _ e) hpu
                      clear D1 D2 hp3 hD3 s58 el2 el hok hok2 eq hom hom2 hol
                      refine ⟨.ref D, rfl, D, rfl, ⟨_, SqL.of hD9⟩, fun D4 nD4 => lc_list (xs := ts.map V.ref) (ReadInv kt ts H9 D4) ⟨same_upd nD4, [], upd_same, .nil⟩ (fun j H' _ inv => SqL.of (inv.1 _ _ hD9)) (fun j y H10 hy inv => ?_) (fun H10 inv => ?_)⟩
                      · obtain ⟨t, ht, rfl⟩ := ref_at hy
                        have tk10 := (tk9 t (List.mem_of_getElem? ht)).same inv.1
                        obtain ⟨dx, e⟩ := id tk10
                        walk_at "rd"
                        exact ⟨⟨_, _, e⟩, t, _, _, rfl, tk10, ⟨_, _, e⟩, t, _, _, rfl, tk10, by decide, fun u nu => read_turn inv ht nD4 nu (by omega)⟩
                      · obtain ⟨s10, ws, hD4, hp4⟩ := inv
                        rw [List.length_map, List.take_length] at hp4
                        walk_at "rd"
                        refine ⟨.list ((ts.map kt).map pdP), .lst (SqL.of hD4) (dp_read_pairs hp4), .list ((ts.map kt).map pdP), .lst (SqL.of (s10 _ _ hE9)) (dp_read_pairs (Paired.mono (fun u t e => s10 _ _ e) hp9)), shaped_pairs _, shaped_pairs _, ?_⟩
                        rw [ev]
                        exact k _
end
end CT
/-! part ASM1 -/
set_option Elab.async false
set_option linter.all false
set_option maxRecDepth 100000
set_option maxHeartbeats 4000000
namespace CT
open PySem PySem.Spec PyProof.Rows L2
/-! ### what is looked at behind the top -/
abbrev Fr : Type := PySem.W.Frag
/-- the addresses that the module's names reach -/
def asY (g : Addr → Option Obj) : Nat → List Addr
  | 0 => [mainGlobals, cStatics]
  | n + 1 => He.growD g (asY g n)
def isO (a b : Option (Option Value)) : Bool := decide (a = b)
def isB (a : Option Bool) (b : Bool) : Bool := decide (a = some b)
theorem isO_eq {a b : Option (Option Value)} (h : isO a b = true) : a = b := of_decide_eq_true h
theorem isB_eq {a : Option Bool} {b : Bool} (h : isB a b = true) : a = some b := of_decide_eq_true h
/-! defs -/
/-- a def of the text: where it stands, its names, its statement, its closure's names -/
structure Df where
  ad : Fr → Addr
  name : Str
  qual : Str
  st : Stmt
  clo : List Str := []
abbrev Seen : Type := Option (Str × Str × Arguments × FuncBody × Scope × Addr × List Str × Addr)
def seeY (K : Fr) (a : Addr) : Seen := match K.lookup a with
  | some ⟨_, _, .func fd, _⟩ => some (fd.name, fd.qualname, fd.params, fd.body, fd.scope, fd.globals, fd.closure.map fun q => q.1, fd.builtins)
  | _ => none
def Df.want (d : Df) : Seen := some (d.name, d.qual, defArgs d.st, .stmts (defBody d.st), defScope d.st, mainGlobals, d.clo, builtinsNs)
/-- the address of its code object -/
def codY (K : Fr) (a : Addr) : Addr := match K.lookup a with
  | some ⟨_, _, .func fd, _⟩ => (match fd.code with
    | .ref c => c
    | _ => 0)
  | _ => 0
def isNone : Value → Bool
  | .none => true
  | _ => false
def isRef : Value → Bool
  | .ref _ => true
  | _ => false
def Df.okB (K : Fr) (d : Df) : Bool := PySem.W.keepIn K (.ref (d.ad K)) && (match K.lookup (d.ad K) with
  | some ⟨_, _, .func fd, _⟩ => PySem.W.codeIn K fd.code d.qual && (isNone fd.defaults && isRef fd.code)
  | _ => false)
theorem two {a b : Bool} (h : (a && b) = true) : a = true ∧ b = true := Bool.and_eq_true_iff.mp h
theorem Df.funC {K : Fr} {d : Df} (e : seeY K (d.ad K) = d.want) (hc : d.clo = []) (c : d.okB K = true) : ∃ fd, FunC K d.name d.qual d.st (d.ad K) fd (codY K (d.ad K)) := by
  obtain ⟨kp, c⟩ := two c
  unfold codY
  unfold seeY Df.want at e
  cases q : K.lookup (d.ad K) with
  | none => rw [q] at c; cases c
  | some o =>
    obtain ⟨oc, od, dt, osl⟩ := o
    rw [q] at c e
    cases dt with
    | func fd =>
      obtain ⟨n1, n2, n3, n4, n5, n6, n7, n8, n9, n10, n11, n12, n13, n14, n15⟩ := fd
      simp only [Option.some.injEq, Prod.mk.injEq] at e
      obtain ⟨h1, h2, h3, h4, h5, h6, h7, h8⟩ := e
      rw [hc] at h7
      have h7 : n7 = [] := List.map_eq_nil_iff.mp h7
      subst h1 h2 h3 h4 h5 h6 h7 h8
      obtain ⟨c1, c2⟩ := two c
      obtain ⟨c2, c3⟩ := two c2
      dsimp only at c1 c2 c3 ⊢
      cases n13 with
      | ref cc =>
        cases n8 with
        | none => exact ⟨_, ⟨oc, od, n9, n10, n11, n12, n14, osl, rfl, q, c1⟩, kp⟩
        | _ => cases c2
      | _ => cases c3
    | _ => cases c
/-! exceptions -/
def tailB : List Value → Bool
  | .ref _ :: r => tailB r
  | l => PySem.HandSPX.refsVE l
def excB (K : Fr) (C : Addr) : Bool := match K.lookup C with
  | some ⟨.type t, _, .cls cd, sl⟩ => decide (t = "type") && ((match cd.mro with
    | .ref C' :: bm => decide (C' = C) && PySem.HandSPX.refsVE bm
    | _ => false) && ((match sl.toList with
    | [_, _, _, _, some (.builtin n), _] => decide (n = "ValueError.__new__")
    | _ => false) && (cd.hasDict && !cd.hasDel)))
  | _ => false
theorem excB_ok {K : Fr} {C : Addr} (h : excB K C = true) : ∃ nm q N bs bm sn sub ab col dd k0 k1 k2 k3 k5, K.lookup C = some (excClassObj nm q C N bs bm true sn sub ab col dd k0 k1 k2 k3 k5 "ValueError.__new__") ∧ PySem.HandSPX.refsVE bm = true := by
  unfold excB at h
  split at h
  · rename_i t dd cd sl ho
    obtain ⟨h1, h⟩ := two h
    obtain ⟨h2, h⟩ := two h
    obtain ⟨h3, h⟩ := two h
    obtain ⟨h4, h5⟩ := two h
    obtain rfl : t = "type" := of_decide_eq_true h1
    obtain ⟨nm, bs, mro, ns, qn, hd, sn, sub, ab, col, del⟩ := cd
    dsimp only at h2 h4 h5
    cases mro with
    | nil => cases h2
    | cons v bm =>
      cases v with
      | ref C' =>
        obtain ⟨h6, h7⟩ := two h2
        have eC : C' = C := of_decide_eq_true h6
        subst eC
        split at h3
        · rename_i k0 k1 k2 k3 n k5 hs
          have en : n = "ValueError.__new__" := of_decide_eq_true h3
          subst en
          have hsl : sl = #[k0, k1, k2, k3, some (.builtin "ValueError.__new__"), k5] := by
            obtain ⟨l⟩ := sl
            simp only at hs
            rw [hs]
          subst hsl
          have e4 : hd = true := h4
          have e5 : del = false := by simpa using h5
          subst e4 e5
          exact ⟨nm, qn, ns, bs, bm, sn, sub, ab, col, dd, k0, k1, k2, k3, k5, ho, h7⟩
        · cases h3
      | _ => cases h2
  · cases h
/-- the __init__ of an exception class at C: the code's file, the cell -/
def supB (K : Fr) (file : Str) (C : Addr) (d : Df) : Bool := match K.lookup (d.ad K) with
  | some ⟨_, _, .func fd, _⟩ => (match fd.code with
      | .ref c => (match K.lookup c with
        | some ⟨_, _, .fields vs, _⟩ => (match (vs[2]? : Option Value) with
          | some (.str f _) => file == f
          | _ => false)
        | _ => false)
      | _ => false) && (match fd.closure with
      | [(_, cc)] => (match K.lookup cc with
        | some ⟨_, _, .cell (some (.ref C')), _⟩ => decide (C' = C)
        | _ => false)
      | _ => false)
  | _ => false
theorem supB_ok {P : Program} {K : Fr} {base : Heap} {C : Addr} {d : Df} (e : seeY K (d.ad K) = d.want) (hc : d.clo = [("__class__" : Str)]) (c : d.okB K = true) (s : supB K P.main.file C d = true) :
    ∃ fd, SupFn P K base C d.name d.qual (defArgs d.st) (defBody d.st) (defScope d.st) (d.ad K) fd ∧ isNone fd.defaults = true := by
  obtain ⟨kp, c⟩ := two c
  unfold seeY Df.want at e
  unfold supB at s
  cases q : K.lookup (d.ad K) with
  | none => rw [q] at c; cases c
  | some o =>
    obtain ⟨oc, od, dt, osl⟩ := o
    rw [q] at c e s
    cases dt with
    | func fd =>
      obtain ⟨n1, n2, n3, n4, n5, n6, n7, n8, n9, n10, n11, n12, n13, n14, n15⟩ := fd
      simp only [Option.some.injEq, Prod.mk.injEq] at e
      obtain ⟨h1, h2, h3, h4, h5, h6, h7, h8⟩ := e
      rw [hc] at h7
      subst h1 h2 h3 h4 h5 h6 h8
      obtain ⟨c1, c2⟩ := two c
      obtain ⟨s1, s2⟩ := two s
      dsimp only at c1 s1 s2 h7
      split at s2
      · rename_i x cc
        have hx : x = "__class__" := by simpa using h7
        subst hx
        split at s2
        · rename_i cl cld C' csl hcc
          have eC : C' = C := of_decide_eq_true s2
          subst eC
          split at s1
          · rename_i cda
            split at s1
            · rename_i ccl cdd vs ccs hcd
              split at s1
              · rename_i file tf hf
                exact ⟨_, ⟨oc, od, n8, n9, n10, n11, n12, cda, n14, osl, cc, ccl, cdd, vs, ccs, file, tf, cl, cld, csl, rfl, q, c1, hcd, hf, s1, hcc⟩, (two c2).1⟩
              · cases s1
            · cases s1
          · cases s1
        · cases s2
      · cases s2
    | _ => cases c
end CT
/-! part ASM2 -/
set_option Elab.async false
set_option linter.all false
set_option maxRecDepth 100000
set_option maxHeartbeats 4000000
namespace CT
open PySem PySem.Spec PyProof.Rows L2
/-! ### the facts that the law leans on -/
abbrev Tk (K : Fr) : Addr := He.ga K "Ticket"
abbrev It (K : Fr) : Addr := He.ga K "InvalidTicket"
abbrev In (K : Fr) : Addr := He.ga K "InvalidNumber"
/-- the getter of a property of tickets -/
def getY (K : Fr) (f : Str) : Addr := match PySem.W.recIn K (He.ma K (Tk K) f) "property" with
  | some (.ref g :: _) => g
  | _ => 0
def dT (x : Str) (st : Stmt) : Df := { ad := fun K => He.ga K x, name := x, qual := x, st := st }
def dM (m q : Str) (st : Stmt) : Df := { ad := fun K => He.ma K (Tk K) m, name := m, qual := q, st := st }
def dP (m q : Str) (st : Stmt) : Df := { ad := fun K => getY K m, name := m, qual := q, st := st }
def dE (c q : Str) (st : Stmt) : Df := { ad := fun K => He.ma K (He.ga K c) "__init__", name := "__init__", qual := q, st := st, clo := ["__class__"] }
abbrev s_IT : Stmt := inClass (topS 5) 0
abbrev s_IN : Stmt := inClass (topS 6) 0
def dIT : Df := dE "InvalidTicket" "InvalidTicket.__init__" s_IT
def dIN : Df := dE "InvalidNumber" "InvalidNumber.__init__" s_IN
def dfs : List Df := [dT "is_whole" s_is_whole, dT "is_position" s_is_position, dT "is_height" s_is_height, dT "_law_mixed" s_law_mixed, dT "_law_folded" s_law_folded, dT "_law_draw" s_law_draw, dT "_law_begun" s_law_begun, dT "_law_pair" s_law_pair,
  dT "_law_doubled" s_law_doubled, dT "_law_is_height" s_law_is_height, dT "_law_part" s_law_part, dT "_law_value" s_law_value, dT "_law_checked" s_law_checked, dT "_law_read" s_law_read, dT "_law_inside_right" s_law_inside_right,
  dT "_law_refused_right" s_law_refused_right, dT "_law_right" s_law_right, dT "_law_compared" s_law_compared, dT "_law_ordered" s_law_ordered, dT "law" s_law,
  dM "__init__" "Ticket.__init__" s_Ticket___init, dM "turned" "Ticket.turned" s_Ticket_turned, dM "__eq__" "Ticket.__eq__" s_Ticket___eq, dM "__lt__" "Ticket.__lt__" s_Ticket___lt, dM "__contains__" "Ticket.__contains__" s_Ticket___contains, dM "__getitem__" "Ticket.__getitem__" s_Ticket___getitem,
  dP "x" "Ticket.x" s_Ticket_x, dP "y" "Ticket.y" s_Ticket_y, dP "is_up" "Ticket.is_up" s_Ticket_is_up, dP "is_down" "Ticket.is_down" s_Ticket_is_down, dIT, dIN]
def glos : List Str := ["is_whole", "is_position", "is_height", "_law_mixed", "_law_folded", "_law_draw", "_law_begun", "_law_pair", "_law_doubled", "_law_is_height", "_law_part", "_law_value", "_law_checked", "_law_read", "_law_inside_right", "_law_refused_right", "_law_right", "_law_compared", "_law_ordered", "law", "Ticket", "InvalidTicket", "InvalidNumber"]
def frees : List Str := ["isinstance", "int", "bool", "len", "range", "enumerate", "list", "repr", "str", "super"]
def prpB (K : Fr) (f : Str) : Bool := isO (PySem.W.findIn K (.ref (Tk K)) f) (some (some (.ref (He.ma K (Tk K) f)))) && (isO (PySem.W.specialIn K (.ref (He.ma K (Tk K) f)) "__get__") (some (some (.builtin "property.__get__"))) && (isB (PySem.W.takesIn K (.ref (He.ma K (Tk K) f))) true && (match PySem.W.recIn K (He.ma K (Tk K) f) "property" with
  | some (.ref _ :: _) => true
  | _ => false)))
def methB (K : Fr) (m : Str) : Bool := (He.Fa.meth "Ticket" m).ok K && PySem.W.fnIn K (He.ma K (Tk K) m)
def xcB (K : Fr) (C : Addr) (fl : Str) (d : Df) : List Bool := [
  excB K C, isO (PySem.W.findIn K (.ref C) "__setattr__") (some (some (.builtin "object.__setattr__"))), isB (PySem.W.subIn K (.ref C) (.type "BaseException")) true, decide (PySem.W.typeIn K (.ref C) = some (.type "type")), PySem.W.keepIn K (.ref C),
  L2.xfB K C, isO (PySem.W.findIn K (.ref C) fl) (some none), isB (PySem.W.exmOne K (.ref C) (.ref C)) true, isO (PySem.W.findIn K (.ref C) "__init__") (some (some (.ref (d.ad K)))), decide (PySem.W.typeIn K (.ref (d.ad K)) = some (.type "function")),
  isB (PySem.W.mroIn K C (.ref C)) true, isB (PySem.W.subIn K (.ref C) (.type "ValueError")) true, isO (PySem.W.ks_superIn K C C "__init__") (some (some (.builtin "ValueError.__init__"))), supB K (PySem.Challenge.pw_climbtickets_k01_tickets_by_hand).main.file C d]
def maxV (K : Fr) : Value := match PySem.W.findIn K (.ref (Tk K)) "MAX_HEIGHT" with
  | some (some v) => v
  | _ => .none
def is30 : Value → Bool
  | .int i _ => decide (i = 30)
  | _ => false
def tkB (K : Fr) : List Bool := [
  isO (PySem.W.findIn K (.ref (Tk K)) "__class__") (some (some (.builtin "object.__class__"))),
  isO (PySem.W.specialIn K (.builtin "object.__class__") "__get__") (some (some (.builtin "getset_descriptor.__get__"))),
  isB (PySem.W.takesIn K (.builtin "object.__class__")) true,
  isB (PySem.W.mroIn K (Tk K) (.type "object")) true,
  isB (PySem.W.kitOne K (.ref (Tk K)) (.ref (Tk K))) true,
  isO (PySem.W.findIn K (.ref (Tk K)) "__ne__") (some (some (.builtin "object.__ne__"))),
  isO (PySem.W.findIn K (.ref (Tk K)) "__gt__") (some (some (.builtin "object.__gt__"))),
  PySem.W.notFirst K (Tk K) (.ref (Tk K)),
  PySem.W.readsIn K (Tk K) (.type "type"),
  isO (PySem.W.specialIn K (.ref (Tk K)) "__getattribute__") (some (some (.builtin "type.__getattribute__"))),
  (match PySem.W.findCls K (.ref (Tk K)) (.type "type") "MAX_HEIGHT" with
    | some (.val v) => is30 v
    | _ => false),
  isO (PySem.W.findIn K (.ref (Tk K)) "MAX_HEIGHT") (some (some (maxV K))), is30 (maxV K), isO (PySem.W.specialIn K (maxV K) "__get__") (some none),
  baseTys.all (fun n => isB (PySem.W.kitOne K (.type n) (.ref (Tk K))) false), baseTys.all (fun n => PySem.W.notFirst K (Tk K) (.type n)),
  (He.Fa.cls "Ticket").ok K, (He.Fa.noat "Ticket" "_x").ok K, (He.Fa.noat "Ticket" "_y").ok K, (He.Fa.mkr "Ticket").ok K,
  (["x", "y", "is_up", "is_down"] : List Str).all (fun f => prpB K f), (["turned", "__eq__", "__lt__", "__contains__", "__getitem__"] : List Str).all (fun m => methB K m),
  isO (PySem.W.nsIn K cStatics "thirdparty.any") (some none)]
/-- the two defs that make lambdas: their code objects, the tables -/
def cod1 (K : Fr) : Addr := codY K (He.ga K "_law_checked")
def cod2 (K : Fr) : Addr := codY K (He.ga K "_law_refused_right")
def tab1 (K : Fr) : Addr := He.tabOf K (cod1 K)
def tab2 (K : Fr) : Addr := He.tabOf K (cod2 K)
def mtB : Option Obj → Bool
  | some o => He.emptyTab o
  | none => false
def lamB (g : Addr → Option Obj) (K : Fr) : List Bool := [PySem.W.codeHdIn K (cod1 K) (tab1 K), PySem.W.codeHdIn K (cod2 K) (tab2 K), mtB (g (tab1 K)), mtB (g (tab2 K)), !decide (tab1 K = tab2 K), !decide (mainGlobals = tab1 K), !decide (mainGlobals = tab2 K)]
def allB (g : Addr → Option Obj) (K : Fr) : List Bool := [glos.all (fun x => (He.Fa.glo x).ok K), frees.all (fun x => (He.Fa.free x).ok K), dfs.all (fun d => d.okB K)] ++ (tkB K ++ (xcB K (It K) "part" dIT ++ (xcB K (In K) "value" dIN ++ lamB g K)))
def frY (n : Nat) (g : Addr → Option Obj) : Fr := He.frT g (asY g n)
abbrev ObY : Type := List Seen × Bool
def obY (n : Nat) (g : Addr → Option Obj) : ObY := (dfs.map fun d => seeY (frY n g) (d.ad (frY n g)), (allB g (frY n g)).all id)
def wantY : ObY := (dfs.map Df.want, true)
end CT
/-! part ASM3 -/
set_option Elab.async false
set_option linter.all false
set_option maxRecDepth 100000
set_option maxHeartbeats 4000000
namespace CT
open PySem PySem.Spec PyProof.Rows L2
/-! ### what the hook tells -/
abbrev mtO : Obj := { cls := .none, data := .fields #[] }
structure Says (K : Fr) (h : Heap) : Prop where
  seen : ∀ d ∈ dfs, seeY K (d.ad K) = d.want
  glo : ∀ x ∈ glos, (He.Fa.glo x).ok K = true
  free : ∀ x ∈ frees, (He.Fa.free x).ok K = true
  dfo : ∀ d ∈ dfs, d.okB K = true
  tk : ∀ b ∈ tkB K, b = true
  it : ∀ b ∈ xcB K (It K) "part" dIT, b = true
  num : ∀ b ∈ xcB K (In K) "value" dIN, b = true
  hd1 : PySem.W.codeHdIn K (cod1 K) (tab1 K) = true
  hd2 : PySem.W.codeHdIn K (cod2 K) (tab2 K) = true
  ne : tab1 K ≠ tab2 K
  ne1 : mainGlobals ≠ tab1 K
  ne2 : mainGlobals ≠ tab2 K
  out1 : K.lookup (tab1 K) = none
  out2 : K.lookup (tab2 K) = none
  mt1 : h.get? (tab1 K) = some mtO
  mt2 : h.get? (tab2 K) = some mtO
theorem mtB_ok {h : Heap} {a : Addr} (e : mtB (h.get? a) = true) : h.get? a = some mtO ∧ ∀ as : List Addr, (He.frT h.get? as).lookup a = none := by
  cases q : h.get? a with
  | none => rw [q] at e; cases e
  | some o =>
    rw [q] at e
    have e : He.emptyTab o = true := e
    exact ⟨by rw [He.emptyTab_eq e], fun as => He.frT_none q e⟩
theorem says_of {n : Nat} {h : Heap} (e : obY n h.get? = wantY) : Says (frY n h.get?) h := by
  have e1 : (dfs.map fun d => seeY (frY n h.get?) (d.ad (frY n h.get?))) = dfs.map Df.want := congrArg (fun z : ObY => z.1) e
  have e2 : (allB h.get? (frY n h.get?)).all id = true := congrArg (fun z : ObY => z.2) e
  have m : ∀ b ∈ allB h.get? (frY n h.get?), b = true := fun b hb => List.all_eq_true.mp e2 b hb
  unfold allB at m
  have mA : ∀ b ∈ [glos.all (fun x => (He.Fa.glo x).ok (frY n h.get?)), frees.all (fun x => (He.Fa.free x).ok (frY n h.get?)), dfs.all (fun d => d.okB (frY n h.get?))], b = true := fun b hb => m b (List.mem_append_left _ hb)
  have mL : ∀ b ∈ lamB h.get? (frY n h.get?), b = true := fun b hb => m b (List.mem_append_right _ (List.mem_append_right _ (List.mem_append_right _ (List.mem_append_right _ hb))))
  have at_ : ∀ (i : Nat) (b : Bool), (lamB h.get? (frY n h.get?))[i]? = some b → b = true := fun i b hb => mL b (List.mem_of_getElem? hb)
  have t1 := mtB_ok (at_ 2 _ rfl)
  have t2 := mtB_ok (at_ 3 _ rfl)
  have no : ∀ {p : Prop} [Decidable p], (!decide p) = true → ¬ p := fun {p} _ z => by simpa using z
  exact ⟨List.map_inj_left.mp e1, List.all_eq_true.mp (mA _ (List.mem_of_getElem? (i := 0) rfl)), List.all_eq_true.mp (mA _ (List.mem_of_getElem? (i := 1) rfl)), List.all_eq_true.mp (mA _ (List.mem_of_getElem? (i := 2) rfl)),
    fun b hb => m b (List.mem_append_right _ (List.mem_append_left _ hb)), fun b hb => m b (List.mem_append_right _ (List.mem_append_right _ (List.mem_append_left _ hb))),
    fun b hb => m b (List.mem_append_right _ (List.mem_append_right _ (List.mem_append_right _ (List.mem_append_left _ hb)))), at_ 0 _ rfl, at_ 1 _ rfl, no (at_ 4 _ rfl), no (at_ 5 _ rfl), no (at_ 6 _ rfl), t1.2 _, t2.2 _, t1.1, t2.1⟩
def hookY (n : Nat) : PySem.W.Hook where
  α := ObY
  obs := fun s => obY n s.heap.get?
  val := fun _ => wantY
  says := fun _ h => ∃ K : Fr, K.In h ∧ Says K h
  of := fun _ s e => ⟨frY n s.heap.get?, He.frT_in, says_of e⟩
  keeps := fun _ _ _ ⟨K, hK, c⟩ k => ⟨K, PySem.W.Frag.In.keeps hK k, ⟨c.seen, c.glo, c.free, c.dfo, c.tk, c.it, c.num, c.hd1, c.hd2, c.ne, c.ne1, c.ne2, c.out1, c.out2, k _ _ c.mt1, k _ _ c.mt2⟩⟩
abbrev RR : PySem.W.OpenRow := PySem.W.OpenLaw.row PySem.Challenge.rw_climbtickets_k01_tickets_by_hand
def obT (s : PySem.W.SharedT) : ObY := obY 6 (HandSHeadRun.getT s)
theorem obT_eq (s : PySem.W.SharedT) : obT s = (hookY 6).obs s.abs := by
  have e : HandSHeadRun.getT s = s.abs.heap.get? := funext (HandSHeadRun.getT_eq s)
  show obY 6 _ = obY 6 _
  rw [e]
def others : List Str := ["is_whole", "is_position", "ClimbticketsError", "InvalidTicket", "InvalidNumber", "Ticket", "is_height", "_law_mixed", "_law_folded", "_law_draw", "_law_begun", "_law_pair", "_law_doubled", "_law_is_height", "_law_part", "_law_value", "_law_checked", "_law_read", "_law_inside_right", "_law_refused_right", "_law_right", "_law_compared", "_law_ordered"]
theorem head_run (w : World) : HandSHeadRun.RunEq RR (PySem.W.view RR.prog [27]) (hookY 6) obT 6000 others w := by
  intro os
  kernel_rfl
end CT
/-! part ASM4 -/
set_option Elab.async false
set_option linter.all false
set_option maxRecDepth 100000
set_option maxHeartbeats 4000000
namespace CT
open PySem PySem.Spec PyProof.Rows L2
/-! ### from what the hook tells to the law's promise -/
abbrev PW : Program := PySem.Challenge.pw_climbtickets_k01_tickets_by_hand
section
variable {w : World} {K : Fr} {mg : Str → Option Value} {h base : Heap}
theorem gl (S : Says K h) (X : K.In h) (G : h.Ns mainGlobals mg) (x : Str) (hx : x ∈ glos := by decide) : mg x = some (.ref (He.ga K x)) := He.glo_ok X G (S.glo x hx)
theorem fr (S : Says K h) (X : K.In h) (G : h.Ns mainGlobals mg) (x : Str) (hx : x ∈ frees := by decide) : mg x = none := He.free_ok X G (S.free x hx)
theorem df (S : Says K h) (i : Nat) {d : Df} (hi : dfs[i]? = some d) (hc : d.clo = []) : ∃ fd, FunC K d.name d.qual d.st (d.ad K) fd (codY K (d.ad K)) :=
  Df.funC (S.seen d (List.mem_of_getElem? hi)) hc (S.dfo d (List.mem_of_getElem? hi))
theorem tkAt (S : Says K h) (i : Nat) {b : Bool} (hi : (tkB K)[i]? = some b) : b = true := S.tk b (List.mem_of_getElem? hi)
theorem cl_of {P : Program} {k : Nat} {x qual : Str} {st : Stmt} {f : Addr} {sp : Sp} {ps : List Str} {fd : FuncData} (F : Fun K x qual st f fd) (g : mg x = some (.ref f)) (o : FnOk P w K mg base CX0 k f fd ps sp) (b : L2.Binds K fd ps []) : Cl P w K mg base k x sp := ⟨f, fd, ps, o, g, F.kp, b⟩
theorem clG_of {P : Program} {k : Nat} {x qual : Str} {st : Stmt} {f : Addr} {sp : Sp} {ps : List Str} {fd : FuncData} (F : Fun K x qual st f fd) (g : mg x = some (.ref f)) (o : GnOk P w K mg base CX0 k f fd ps sp) (b : L2.Binds K fd ps []) : ClG P w K mg base k x sp := ⟨f, fd, ps, o, g, F.kp, b⟩
theorem tx_of (S : Says K h) (X : K.In h) (G : h.Ns mainGlobals mg) : Tx K mg (Tk K) where
  len := fr S X G "len"
  range := fr S X G "range"
  enumerate := fr S X G "enumerate"
  list := fr S X G "list"
  isinstance := fr S X G "isinstance"
  b_int := fr S X G "int"
  b_bool := fr S X G "bool"
  mg_Ticket := gl S X G "Ticket"
  clT := He.cls_ok (tkAt S 16 rfl)
  nTx := He.noat_ok (tkAt S 17 rfl)
  nTy := He.noat_ok (tkAt S 18 rfl)
  pyT := isO_eq (tkAt S 0 rfl)
  spO := isO_eq (tkAt S 1 rfl)
  tkO := isB_eq (tkAt S 2 rfl)
  mroT := isB_eq (tkAt S 3 rfl)
  kitT := isB_eq (tkAt S 4 rfl)
  noNe := ⟨isO_eq (tkAt S 5 rfl), isO_eq (tkAt S 6 rfl), isB_eq (tkAt S 3 rfl), tkAt S 7 rfl⟩
  maxT := by
    have c := tkAt S 10 rfl
    refine ⟨.type "type", ?_⟩
    split at c
    · rename_i v hv
      cases v with
      | int i t =>
        have ei : i = 30 := of_decide_eq_true c
        subst ei
        exact ⟨_, ⟨tkAt S 8 rfl, isO_eq (tkAt S 9 rfl)⟩, ⟨hv, ⟨t, rfl⟩⟩⟩
      | _ => cases c
    · cases c
theorem anT_of (S : Says K h) : AnT K (Tk K) := ⟨fun n hn => isB_eq (List.all_eq_true.mp (tkAt S 14 rfl) n hn), fun n hn => List.all_eq_true.mp (tkAt S 15 rfl) n hn⟩
theorem con_of (S : Says K h) : ∃ u : Value, L2.Con K (Tk K) "MAX_HEIGHT" (.int 30) u := by
  have c := tkAt S 12 rfl
  refine ⟨maxV K, isO_eq (tkAt S 11 rfl), ?_, isO_eq (tkAt S 13 rfl), by decide +kernel⟩
  generalize maxV K = v at c
  cases v with
  | int i t =>
    have ei : i = 30 := of_decide_eq_true c
    subst ei
    exact ⟨t, rfl⟩
  | _ => cases c
theorem prop_of (S : Says K h) (f : Str) (hf : f ∈ (["x", "y", "is_up", "is_down"] : List Str)) : L2.PropOf K (Tk K) f (He.ma K (Tk K) f) (getY K f) := by
  have c : prpB K f = true := List.all_eq_true.mp (tkAt S 20 rfl) f hf
  obtain ⟨c1, c⟩ := two c
  obtain ⟨c2, c⟩ := two c
  obtain ⟨c3, c4⟩ := two c
  refine ⟨isO_eq c1, isO_eq c2, isB_eq c3, ?_⟩
  unfold getY
  split at c4
  · rename_i g rest hr
    rw [hr]
    exact ⟨rest, rfl⟩
  · cases c4
theorem meth_of (S : Says K h) (m : Str) (hm : m ∈ (["turned", "__eq__", "__lt__", "__contains__", "__getitem__"] : List Str)) : L2.Meth K (Tk K) m (He.ma K (Tk K) m) ∧ PySem.W.fnIn K (He.ma K (Tk K) m) = true := by
  have c : methB K m = true := List.all_eq_true.mp (tkAt S 21 rfl) m hm
  obtain ⟨c1, c2⟩ := two c
  exact ⟨He.meth_ok c1, c2⟩
theorem op_of {P : Program} {CX : CXT} {k : Nat} {m : Str} {sp : Sp} {ps : List Str} {fd : FuncData} (M : L2.Meth K (Tk K) m (He.ma K (Tk K) m) ∧ PySem.W.fnIn K (He.ma K (Tk K) m) = true) (o : FnOk P w K mg base CX k (He.ma K (Tk K) m) fd ps sp) (b : L2.Binds K fd ps []) : Op CX P w K mg base k (Tk K) m sp :=
  ⟨_, fnR_of o b, M.1.at_, M.1.fn, M.2⟩
theorem xc_of {x fl : Str} {d : Df} (gx : mg x = some (.ref (He.ga K x))) (c : ∀ b ∈ xcB K (He.ga K x) fl d, b = true) (st : PySem.W.nsIn K cStatics "thirdparty.any" = some none) {ps : List Str}
    (F : ∀ fd, SupFn PW K base (He.ga K x) d.name d.qual (defArgs d.st) (defBody d.st) (defScope d.st) (d.ad K) fd → isNone fd.defaults = true → SupC PW K (He.ga K x) (defScope d.st) → FnOk PW w K mg base CX0 1 (d.ad K) fd ps (spX1 (He.ga K x) fl) ∧ L2.Binds K fd ps [])
    (he : seeY K (d.ad K) = d.want) (hc : d.clo = [("__class__" : Str)]) (hk : d.okB K = true) : Xc1 PW w K mg base x (He.ga K x) fl := by
  have at_ : ∀ (i : Nat) (b : Bool), (xcB K (He.ga K x) fl d)[i]? = some b → b = true := fun i b hb => c b (List.mem_of_getElem? hb)
  obtain ⟨fd, SF, sd⟩ := supB_ok (P := PW) (base := base) he hc hk (at_ 13 _ rfl)
  have O : OexC K (He.ga K x) := ⟨excB_ok (at_ 0 _ rfl), isO_eq (at_ 1 _ rfl), isB_eq (at_ 2 _ rfl), of_decide_eq_true (at_ 3 _ rfl), at_ 4 _ rfl⟩
  obtain ⟨o, b⟩ := F fd SF sd ⟨O, isB_eq (at_ 10 _ rfl), isB_eq (at_ 11 _ rfl), isO_eq (at_ 12 _ rfl), st, by decide +kernel⟩
  exact ⟨O, L2.xfB_ok (at_ 5 _ rfl), isO_eq (at_ 6 _ rfl), isB_eq (at_ 7 _ rfl), gx, d.ad K, fd, ps, isO_eq (at_ 8 _ rfl), of_decide_eq_true (at_ 9 _ rfl), o, b⟩
theorem rev_vals : ∀ {vs : List V} {us : List Value}, Vals vs us → Vals vs.reverse us.reverse
  | _, _, .nil => .nil
  | _, _, .cons r t => by
    rw [List.reverse_cons, List.reverse_cons]
    exact (rev_vals t).append (.cons r .nil)
theorem supS_IT : SupS ["self", "part"] ["self", "part"] (defScope s_IT) := ⟨rfl, rfl, rfl, by decide +kernel, rfl, by decide +kernel, by decide +kernel, by decide +kernel, by decide +kernel, fun x hx => by
  have e : ∀ q ∈ (defScope s_IT).names, q.2 = .free → q.1 = "__class__" := by decide +kernel
  exact e (x, .free) (PySem.mem_of_lookup hx) rfl⟩
theorem supS_IN : SupS ["self", "value"] ["self", "value"] (defScope s_IN) := ⟨rfl, rfl, rfl, by decide +kernel, rfl, by decide +kernel, by decide +kernel, by decide +kernel, by decide +kernel, fun x hx => by
  have e : ∀ q ∈ (defScope s_IN).names, q.2 = .free → q.1 = "__class__" := by decide +kernel
  exact e (x, .free) (PySem.mem_of_lookup hx) rfl⟩
theorem sup_binds {P : Program} {C f : Addr} {fd : FuncData} {name qual : Str} {st : Stmt} {ps : List Str} (F : SupFn P K base C name qual (defArgs st) (defBody st) (defScope st) f fd) (df : isNone fd.defaults = true)
    (hb : ∀ (kV doc pm : Value) (an : Option Addr) (cdv ct : Value) (cc : Addr) (us : List Value), us.length = ps.length → bindArgs (PySem.W.ksFn name qual (defArgs st) (defBody st) (defScope st) .none kV doc pm an cdv ct cc) ⟨us, []⟩ = pure (ps.zip us)) : L2.Binds K fd ps [] := by
  obtain ⟨oc, od, dV, kV, doc, pm, an, cda, ct, osl, cc, ccl, cdd, vcs, ccs, file, tf, cl, cld, csl, rfl, _⟩ := F.ex
  cases dV with
  | none => exact .all (hb _ _ _ _ _ _ _)
  | _ => cases df
end
end CT
/-! part ASM5 -/
set_option Elab.async false
set_option linter.all false
set_option maxRecDepth 100000
set_option maxHeartbeats 4000000
namespace CT
open PySem PySem.Spec PyProof.Rows L2
/-! ### the end: the law is called -/
theorem call_of {P : Program} {w : World} {K : Fr} {mg mb : Str → Option Value} {fa a c1 c2 t1 t2 : Addr} {fd : FuncData} {s : Shared} {vs : List Value} {ns : List Int}
    (KX : K.In s.heap) (G : s.heap.Ns mainGlobals mg) (B : s.heap.Ns builtinsNs mb) (Bv : ∀ x : Str, x ≠ "__name__" → mb x = bootBuiltins x) (nl : s.heap.NoLimit) (hg : s.gens = #[])
    (m1 : s.heap.get? t1 = some mtO) (m2 : s.heap.get? t2 = some mtO) (o1 : K.lookup t1 = none) (o2 : K.lookup t2 = none) (h1 : PySem.W.codeHdIn K c1 t1 = true) (h2 : PySem.W.codeHdIn K c2 t2 = true) (g1 : mainGlobals ≠ t1) (g2 : mainGlobals ≠ t2)
    (hbm : ∃ (bm : Addr) (ob : Obj), mg "__builtins__" = some (.ref bm) ∧ bm ≠ builtinsNs ∧ s.heap.get? bm = some ob ∧ ob.cls = .type "module" ∧ ob.dict = some builtinsNs ∧ ob.data = .plain)
    (hs : s.heap.get? a = some { cls := .type "list", data := .seq vs.toArray }) (hi : IntsAre vs ns) (hl : ns.length ≤ 63)
    (F : ∀ base : Heap, K.In base → base.Ns mainGlobals mg → LamX.TabB base mg c1 t1 → LamX.TabB base mg c2 t2 → GnOk P w K mg base CX0 11 fa fd ["script"] (spLaw K (tabs t1 t2))) (hb : ∀ (s : Shared) (u : Value), BindsTo s fd ⟨[u], []⟩ [("script", u)]) :
    codeAny (model P w) callerA (.call (.ref fa) ⟨[.ref a], []⟩) (fun r s' => r = .ok (.ret (.bool true)) ∧ OldK s.heap s'.heap ∧ s'.os = s.os ∧ AllBare s'.gens) s := by
  have rel := vals_ints hi
  have n63 : ns.length ≤ sizeLine := Nat.le_trans hl (by decide)
  have nat1 : a ≠ t1 := fun z => by
    rw [z, m1] at hs
    cases congrArg Obj.data (Option.some.inj hs)
  have nat2 : a ≠ t2 := fun z => by
    rw [z, m2] at hs
    cases congrArg Obj.data (Option.some.inj hs)
  -- the abstract heap: the tables, and the script where K does not hold it
  obtain ⟨H, hH⟩ : ∃ H : Hp, H = fun b => if b = t1 ∨ b = t2 then some (.tbl #[]) else if b = a ∧ K.lookup a = none then some (.frz { cls := .type "list", data := .seq vs.toArray } (.lst (ns.map V.int))) else none := ⟨_, rfl⟩
  have H1 : H t1 = some (.tbl #[]) := by rw [hH]; exact if_pos (.inl rfl)
  have H2 : H t2 = some (.tbl #[]) := by rw [hH]; exact if_pos (.inr rfl)
  have three : ∀ b, H b = none ∨ (H b = some (.tbl #[]) ∧ (b = t1 ∨ b = t2)) ∨ (H b = some (.frz { cls := .type "list", data := .seq vs.toArray } (.lst (ns.map V.int))) ∧ b = a ∧ K.lookup a = none) := fun b => by
    rw [hH]
    by_cases q : b = t1 ∨ b = t2
    · exact .inr (.inl ⟨if_pos q, q⟩)
    · by_cases q2 : b = a ∧ K.lookup a = none
      · exact .inr (.inr ⟨(if_neg q).trans (if_pos q2), q2⟩)
      · exact .inl ((if_neg q).trans (if_neg q2))
  have free : ∀ {b : Addr} {o : Obj}, s.heap.get? b = some o → o.data ≠ .fields #[] → (∀ us n, o.data ≠ .seq us n) → H b = none := fun {b o} e p1 p2 => by
    rcases three b with z | ⟨_, rfl | rfl⟩ | ⟨_, rfl, _⟩
    · exact z
    · rw [m1] at e
      cases e
      exact absurd rfl p1
    · rw [m2] at e
      cases e
      exact absurd rfl p1
    · rw [hs] at e
      cases e
      exact absurd rfl (p2 _ _)
  have inBase : ∀ {b : Addr} {o : Obj}, s.heap.get? b = some o → o.data ≠ .fields #[] → (∀ us n, o.data ≠ .seq us n) → (hidT s.heap H).get? b = some o := fun e p1 p2 => hidT_get e (free e p1 p2)
  have nsB : ∀ {b : Addr} {m : Str → Option Value}, s.heap.Ns b m → (hidT s.heap H).Ns b m := fun {b m} ⟨o, es, ep, e, d, r⟩ => ⟨o, es, ep, inBase e (by rw [d]; intro z; cases z) (by intro us n z; rw [d] at z; cases z), d, r⟩
  have KB : K.In (hidT s.heap H) := fun b o e => hidT_get (KX b o e) (by
    rcases three b with z | ⟨_, rfl | rfl⟩ | ⟨_, rfl, z⟩
    · exact z
    · rw [o1] at e
      cases e
    · rw [o2] at e
      cases e
    · rw [z] at e
      cases e)
  have MB : L2.Mod K mg (hidT s.heap H) := ⟨KB, nsB G, ⟨mb, nsB B, Bv⟩, let ⟨mc, p, q⟩ := nl; ⟨mc, nsB p, q⟩⟩
  have bmB : ∀ t, s.heap.get? t = some mtO → (hidT s.heap H).BuiltinsAt mg t := fun t mt => by
    obtain ⟨bm, ob, b1, b2, b3, b4, b5, b6⟩ := hbm
    refine ⟨bm, ob, b1, b2, fun z => ?_, fun z => ?_, inBase b3 (by rw [b6]; intro z; cases z) (by intro us n z; rw [b6] at z; cases z), b4, b5, b6⟩
    · obtain ⟨o, es, ep, e, d, _⟩ := G
      rw [z, e] at b3
      cases b3
      rw [d] at b6
      cases b6
    · rw [z, mt] at b3
      cases b3
      cases b6
  have hok : HOk P w H s.heap := fun b o e => by
    rcases three b with z | ⟨z, rfl | rfl⟩ | ⟨z, rfl, _⟩
    · rw [z] at e
      cases e
    · rw [z] at e
      cases e
      exact m1
    · rw [z] at e
      cases e
      exact m2
    · rw [z] at e
      cases e
      exact ⟨hs, by rw [List.length_map]; exact n63, vs, _, rel, hs⟩
  have seq : SqL K H a (ns.map V.int) := by
    cases hk : K.lookup a with
    | none =>
      refine .inl (.inr ⟨{ cls := .type "list", data := .seq vs.toArray }, ?_⟩)
      rw [hH]
      exact (if_neg (fun z => z.elim nat1 nat2)).trans (if_pos ⟨rfl, hk⟩)
    | some o =>
      have e := KX a o hk
      rw [hs] at e
      cases e
      exact .inr ⟨_, vs.toArray, _, hk, rfl, rfl, rfl, by rw [List.size_toArray, hi.length]; exact n63, by simpa using rel⟩
  have tabsH : LamX.Tabs (tabs t1 t2) H := fun p hp => by
    rcases List.mem_cons.mp hp with rfl | z
    · exact ⟨#[], H1, by trivial, fun pos cv z => by cases z⟩
    · rw [List.mem_singleton.mp z]
      exact ⟨#[], H2, by trivial, fun pos cv z => by cases z⟩
  have e0 : Env0 P w K mg (hidT s.heap H) callerA [] s H := ⟨rfl, MB, fun b o e => of_hidT e, Nat.le_of_eq (hidT_size _ _), trivial, fun b z => absurd (show b ∈ ([] : List Addr) from z) List.not_mem_nil, hok, .of_eq hg⟩
  have FF := F _ KB (nsB G) ⟨PySem.W.codeHd_of_K KB h1, bmB t1 m1, g1⟩ ⟨PySem.W.codeHd_of_K KB h2, bmB t2 m2, g2⟩
  refine codeAny_mono (FF.go callerA [] s H ⟨[.ref a], []⟩ [.ref a] [.ref a] (fun v _ => v = .bl true) (fun _ _ _ => False) ⟨rfl, by decide, by decide⟩ rfl e0 (hb s (.ref a)) (.cons rfl .nil) ⟨a, ns, rfl, seq, hl, tabsH, fun _ => rfl⟩) fun r s' z => ?_
  cases r with
  | error e => exact False.elim z
  | ok fl =>
    cases fl with
    | next => exact False.elim z
    | brk => exact False.elim z
    | cont => exact False.elim z
    | ret u =>
      obtain ⟨v, H', os, bare, un, hok', r', rfl⟩ := z
      have eu : u = Value.bool true := r'
      rw [eu]
      have stays : ∀ b o, ¬ (b = t1 ∨ b = t2) → s.heap.get? b = some o → s'.heap.get? b = some o := fun b o nb e => by
        rcases three b with z | ⟨_, z⟩ | ⟨z, rfl, _⟩
        · exact un.keep b o e z (fun y => absurd (show b ∈ ([] : List Addr) from y) List.not_mem_nil) List.not_mem_nil
        · exact absurd z nb
        · obtain ⟨q, _⟩ := hok b _ z
          obtain ⟨q2, _⟩ := hok' b _ (un.frzs b _ _ z)
          rw [e] at q
          cases q
          exact q2
      have grown : ∀ t, H t = some (.tbl #[]) → ∃ more : Array Value, s'.heap.get? t = some { cls := .none, data := .fields more } := fun t q => by
        obtain ⟨more, z⟩ := un.tbls t #[] q
        exact ⟨_, hok' t _ z⟩
      have wasTab : ∀ c t, PySem.W.codeHdIn K c t = true → s.heap.get? t = some mtO → H t = some (.tbl #[]) → ∀ o, s.heap.get? t = some o → asItWas s.heap s'.heap t o := fun c t hc mt q o e => by
        rw [mt] at e
        cases e
        obtain ⟨more, z⟩ := grown t q
        exact .inr (.inl ⟨((PySem.W.codeHd_of_K KX hc).tab mt).isCodeTable, rfl, #[], more, rfl, by rw [Array.empty_append]; exact z⟩)
      refine ⟨rfl, ⟨fun b o e => ?_, fun b o e => ?_⟩, os, bare⟩
      · by_cases q : b = t1 ∨ b = t2
        · rcases q with rfl | rfl
          · exact wasTab c1 _ h1 m1 H1 o e
          · exact wasTab c2 _ h2 m2 H2 o e
        · exact .inl (stays b o q e)
      · by_cases q : b = t1 ∨ b = t2
        · rcases q with rfl | rfl
          · exact let ⟨_, z⟩ := grown _ H1; ⟨_, z⟩
          · exact let ⟨_, z⟩ := grown _ H2; ⟨_, z⟩
        · exact ⟨o, stays b o q e⟩
end CT
/-! part ASM6 -/
set_option Elab.async false
set_option linter.all false
set_option maxRecDepth 100000
set_option maxHeartbeats 4000000
namespace CT
open PySem PySem.Spec PyProof.Rows L2
section
variable {w : World} {K : Fr} {mg : Str → Option Value} {h base : Heap}
theorem xIT_of (S : Says K h) (X : K.In h) (G : h.Ns mainGlobals mg) : Xc1 PW w K mg base "InvalidTicket" (It K) "part" :=
  xc_of (gl S X G "InvalidTicket") S.it (isO_eq (tkAt S 22 rfl)) (fun fd SF sd SC => ⟨ok_x1 SF SC supS_IT (fr S X G "super") (isO_eq (S.it _ (List.mem_of_getElem? (i := 6) rfl))) rfl rfl rfl rfl, sup_binds SF sd fun _ _ _ _ _ _ _ us hl => match us, hl with | [_, _], _ => rfl⟩)
    (S.seen dIT (List.mem_of_getElem? (i := 30) rfl)) rfl (S.dfo dIT (List.mem_of_getElem? (i := 30) rfl))
theorem xIN_of (S : Says K h) (X : K.In h) (G : h.Ns mainGlobals mg) : Xc1 PW w K mg base "InvalidNumber" (In K) "value" :=
  xc_of (gl S X G "InvalidNumber") S.num (isO_eq (tkAt S 22 rfl)) (fun fd SF sd SC => ⟨ok_x1 SF SC supS_IN (fr S X G "super") (isO_eq (S.num _ (List.mem_of_getElem? (i := 6) rfl))) rfl rfl rfl rfl, sup_binds SF sd fun _ _ _ _ _ _ _ us hl => match us, hl with | [_, _], _ => rfl⟩)
    (S.seen dIN (List.mem_of_getElem? (i := 31) rfl)) rfl (S.dfo dIN (List.mem_of_getElem? (i := 31) rfl))
theorem law_ok (S : Says K h) (X : K.In h) (G : h.Ns mainGlobals mg) {fd : FuncData} (F : Fun K "law" "law" s_law (He.ga K "law") fd) (T1 : LamX.TabB base mg (cod1 K) (tab1 K)) (T2 : LamX.TabB base mg (cod2 K) (tab2 K)) : GnOk PW w K mg base CX0 11 (He.ga K "law") fd ["script"] (spLaw K (tabs (tab1 K) (tab2 K))) := by
  have T := tx_of S X G
  have AT := anT_of S
  have xIT : Xc1 PW w K mg base "InvalidTicket" (It K) "part" := xIT_of S X G
  have xIN : Xc1 PW w K mg base "InvalidNumber" (In K) "value" := xIN_of S X G
  obtain ⟨fd_0, F_0⟩ := df S 0 (d := dT "is_whole" s_is_whole) rfl rfl
  obtain ⟨fd_1, F_1⟩ := df S 1 (d := dT "is_position" s_is_position) rfl rfl
  obtain ⟨fd_2, F_2⟩ := df S 2 (d := dT "is_height" s_is_height) rfl rfl
  obtain ⟨fd_3, F_3⟩ := df S 3 (d := dT "_law_mixed" s_law_mixed) rfl rfl
  obtain ⟨fd_4, F_4⟩ := df S 4 (d := dT "_law_folded" s_law_folded) rfl rfl
  obtain ⟨fd_5, F_5⟩ := df S 5 (d := dT "_law_draw" s_law_draw) rfl rfl
  obtain ⟨fd_6, F_6⟩ := df S 6 (d := dT "_law_begun" s_law_begun) rfl rfl
  obtain ⟨fd_7, F_7⟩ := df S 7 (d := dT "_law_pair" s_law_pair) rfl rfl
  obtain ⟨fd_8, F_8⟩ := df S 8 (d := dT "_law_doubled" s_law_doubled) rfl rfl
  obtain ⟨fd_9, F_9⟩ := df S 9 (d := dT "_law_is_height" s_law_is_height) rfl rfl
  obtain ⟨fd_10, F_10⟩ := df S 10 (d := dT "_law_part" s_law_part) rfl rfl
  obtain ⟨fd_11, F_11⟩ := df S 11 (d := dT "_law_value" s_law_value) rfl rfl
  obtain ⟨fd_12, F_12⟩ := df S 12 (d := dT "_law_checked" s_law_checked) rfl rfl
  obtain ⟨fd_13, F_13⟩ := df S 13 (d := dT "_law_read" s_law_read) rfl rfl
  obtain ⟨fd_14, F_14⟩ := df S 14 (d := dT "_law_inside_right" s_law_inside_right) rfl rfl
  obtain ⟨fd_15, F_15⟩ := df S 15 (d := dT "_law_refused_right" s_law_refused_right) rfl rfl
  obtain ⟨fd_16, F_16⟩ := df S 16 (d := dT "_law_right" s_law_right) rfl rfl
  obtain ⟨fd_17, F_17⟩ := df S 17 (d := dT "_law_compared" s_law_compared) rfl rfl
  obtain ⟨fd_18, F_18⟩ := df S 18 (d := dT "_law_ordered" s_law_ordered) rfl rfl
  obtain ⟨fd_20, F_20⟩ := df S 20 (d := dM "__init__" "Ticket.__init__" s_Ticket___init) rfl rfl
  obtain ⟨fd_21, F_21⟩ := df S 21 (d := dM "turned" "Ticket.turned" s_Ticket_turned) rfl rfl
  obtain ⟨fd_22, F_22⟩ := df S 22 (d := dM "__eq__" "Ticket.__eq__" s_Ticket___eq) rfl rfl
  obtain ⟨fd_23, F_23⟩ := df S 23 (d := dM "__lt__" "Ticket.__lt__" s_Ticket___lt) rfl rfl
  obtain ⟨fd_24, F_24⟩ := df S 24 (d := dM "__contains__" "Ticket.__contains__" s_Ticket___contains) rfl rfl
  obtain ⟨fd_25, F_25⟩ := df S 25 (d := dM "__getitem__" "Ticket.__getitem__" s_Ticket___getitem) rfl rfl
  obtain ⟨fd_26, F_26⟩ := df S 26 (d := dP "x" "Ticket.x" s_Ticket_x) rfl rfl
  obtain ⟨fd_27, F_27⟩ := df S 27 (d := dP "y" "Ticket.y" s_Ticket_y) rfl rfl
  obtain ⟨fd_28, F_28⟩ := df S 28 (d := dP "is_up" "Ticket.is_up" s_Ticket_is_up) rfl rfl
  obtain ⟨fd_29, F_29⟩ := df S 29 (d := dP "is_down" "Ticket.is_down" s_Ticket_is_down) rfl rfl
  have c_0 : Cl PW w K mg base 1 "is_whole" (spWhole K) := cl_of F_0.fn (gl S X G "is_whole") (ok_whole F_0.fn T) (F_0.fn.binds fun _ _ _ _ _ _ us hl => match us, hl with | [_], _ => rfl)
  have c_1 : Cl PW w K mg base 2 "is_position" (spPos K) := cl_of F_1.fn (gl S X G "is_position") (ok_pos F_1.fn c_0) (F_1.fn.binds fun _ _ _ _ _ _ us hl => match us, hl with | [_, _], _ => rfl)
  have c_2 : Cl PW w K mg base 3 "is_height" (spHeight K) := cl_of F_2.fn (gl S X G "is_height") (ok_height F_2.fn T c_1) (F_2.fn.binds fun _ _ _ _ _ _ us hl => match us, hl with | [_], _ => rfl)
  have c_3 : Cl PW w K mg base 1 "_law_mixed" spMixed := cl_of F_3.fn (gl S X G "_law_mixed") (ok_mixed F_3.fn) (F_3.fn.binds fun _ _ _ _ _ _ us hl => match us, hl with | [_, _], _ => rfl)
  have c_4 : Cl PW w K mg base 1 "_law_folded" (spFolded K) := cl_of F_4.fn (gl S X G "_law_folded") (ok_folded F_4.fn T.toBl) (F_4.fn.binds fun _ _ _ _ _ _ us hl => match us, hl with | [_], _ => rfl)
  have c_5 : Cl PW w K mg base 2 "_law_draw" spDraw := cl_of F_5.fn (gl S X G "_law_draw") (ok_draw (k := 0) F_5.fn T.toBl c_3) (F_5.fn.binds fun _ _ _ _ _ _ us hl => match us, hl with | [_, _], _ => rfl)
  have c_6 : Cl PW w K mg base 2 "_law_begun" (spBegun K) := cl_of F_6.fn (gl S X G "_law_begun") (ok_begun F_6.fn T c_4) (F_6.fn.binds fun _ _ _ _ _ _ us hl => match us, hl with | [_], _ => rfl)
  have c_7 : Cl PW w K mg base 3 "_law_pair" spPair := cl_of F_7.fn (gl S X G "_law_pair") (ok_pair F_7.fn c_5) (F_7.fn.binds fun _ _ _ _ _ _ us hl => match us, hl with | [_, _, _], _ => rfl)
  have c_8 : Cl PW w K mg base 1 "_law_doubled" spDoubled := cl_of F_8.fn (gl S X G "_law_doubled") (ok_doubled F_8.fn T) (F_8.fn.binds fun _ _ _ _ _ _ us hl => match us, hl with | [_], _ => rfl)
  have c_9 : Cl PW w K mg base 1 "_law_is_height" (spHeight K) := cl_of F_9.fn (gl S X G "_law_is_height") (ok_isheight F_9.fn T) (F_9.fn.binds fun _ _ _ _ _ _ us hl => match us, hl with | [_], _ => rfl)
  have bI : L2.Binds K fd_20 ["self", "x", "y"] [] := (F_20.fn.binds fun _ _ _ _ _ _ us hl => match us, hl with | [_, _, _], _ => rfl)
  have oI : FnOk PW w K mg base CX0 4 _ fd_20 ["self", "x", "y"] (spTkInit (Tk K)) := ok_tkinit F_20.fn T c_2
  have oX : FnOk PW w K mg base (L2.CX PW w) 4 _ fd_20 ["self", "x", "y"] (spTkInitX K (Tk K) (It K)) := ok_tkinitX F_20.fn T c_2 xIT
  have mk : L2.Mk K (Tk K) (He.ma K (Tk K) "__init__") := He.mkr_ok (tkAt S 19 rfl)
  have maker : Mk1 CX0 PW w K mg base 4 "Ticket" (Tk K) (spTkInit (Tk K)) := ⟨_, mk, fnR_of oI bI, gl S X G "Ticket"⟩
  have kbn : KBn K fd_20 ["self", "x", "y"] 1 ["y", "x"] (fun us ws => us ++ ws.reverse) (fun vs zs => vs ++ zs.reverse) := by
    obtain ⟨oc, od, kV, doc, pm, an, ct, osl, rfl, _⟩ := F_20.ex
    exact ⟨fun s us ws _ l1 l2 => .of_eq (match us, ws, l1, l2 with | [_], [_, _], _, _ => by kernel_rfl), fun r rz => r.append (rev_vals rz)⟩
  have item : Op (L2.CX PW w) PW w K mg base 3 (Tk K) "__getitem__" (spTkItem K (Tk K) (In K)) := op_of (meth_of S "__getitem__" (by decide)) (ok_tkitem F_25.fn T c_1 xIN) (F_25.fn.binds fun _ _ _ _ _ _ us hl => match us, hl with | [_, _], _ => rfl)
  have R : TkR PW w K mg base (Tk K) (It K) (In K) := ⟨⟨_, _, fd_26, ["self"], T.clT, prop_of S "x" (by decide), ok_tkx F_26.fn T, (F_26.fn.binds fun _ _ _ _ _ _ us hl => match us, hl with | [_], _ => rfl)⟩, ⟨_, _, fd_27, ["self"], T.clT, prop_of S "y" (by decide), ok_tky F_27.fn T, (F_27.fn.binds fun _ _ _ _ _ _ us hl => match us, hl with | [_], _ => rfl)⟩, ⟨_, _, fd_28, ["self"], T.clT, prop_of S "is_up" (by decide), ok_tkup F_28.fn T, (F_28.fn.binds fun _ _ _ _ _ _ us hl => match us, hl with | [_], _ => rfl)⟩, ⟨_, _, fd_29, ["self"], T.clT, prop_of S "is_down" (by decide), ok_tkdown F_29.fn T, (F_29.fn.binds fun _ _ _ _ _ _ us hl => match us, hl with | [_], _ => rfl)⟩,
    item, op_of (meth_of S "__eq__" (by decide)) (ok_tkeqX F_22.fn T) (F_22.fn.binds fun _ _ _ _ _ _ us hl => match us, hl with | [_, _], _ => rfl), op_of (meth_of S "__lt__" (by decide)) (ok_tklt F_23.fn T) (F_23.fn.binds fun _ _ _ _ _ _ us hl => match us, hl with | [_, _], _ => rfl), op_of (meth_of S "__contains__" (by decide)) (ok_tkin F_24.fn T c_0) (F_24.fn.binds fun _ _ _ _ _ _ us hl => match us, hl with | [_, _], _ => rfl),
    ⟨_, fd_21, ["self"], T.clT, (meth_of S "turned" (by decide)).1, ok_tkturned F_21.fn T maker, (F_21.fn.binds fun _ _ _ _ _ _ us hl => match us, hl with | [_], _ => rfl)⟩, maker, fr S X G "repr", fr S X G "str", T.noNe, con_of S⟩
  have L : LamT PW w K mg base (Tk K) (It K) (In K) := ⟨xIT, xIN, ⟨_, fd_10, F_10.fn, gl S X G "_law_part", (F_10.fn.binds fun _ _ _ _ _ _ us hl => match us, hl with | [_], _ => rfl)⟩, ⟨_, fd_11, F_11.fn, gl S X G "_law_value", (F_11.fn.binds fun _ _ _ _ _ _ us hl => match us, hl with | [_], _ => rfl)⟩, ⟨_, fd_20, mk, oX, gl S X G "Ticket", bI, kbn⟩, item⟩
  have c_12 : Cl PW w K mg base 9 "_law_checked" (spChecked K (tabs (tab1 K) (tab2 K))) := cl_of F_12.fn (gl S X G "_law_checked") (ok_checked F_12 T L T1 S.ne c_9) (F_12.fn.binds fun _ _ _ _ _ _ us hl => match us, hl with | [_, _], _ => rfl)
  have c_13 : Cl PW w K mg base 6 "_law_read" (spRead (Tk K)) := cl_of F_13.fn (gl S X G "_law_read") (ok_read F_13.fn T R) (F_13.fn.binds fun _ _ _ _ _ _ us hl => match us, hl with | [_], _ => rfl)
  have c_14 : ClG PW w K mg base 6 "_law_inside_right" (spInside (Tk K)) := clG_of F_14.fn (gl S X G "_law_inside_right") (ok_inside F_14.fn T R c_8) (F_14.fn.binds fun _ _ _ _ _ _ us hl => match us, hl with | [_, _, _], _ => rfl)
  have c_15 : ClG PW w K mg base 9 "_law_refused_right" (spRefused (Tk K) (tabs (tab1 K) (tab2 K))) := clG_of F_15.fn (gl S X G "_law_refused_right") (ok_refused F_15 T R AT L T2 S.ne c_8) (F_15.fn.binds fun _ _ _ _ _ _ us hl => match us, hl with | [_, _], _ => rfl)
  have c_16 : ClG PW w K mg base 10 "_law_right" (spRight (tabs (tab1 K) (tab2 K))) := clG_of F_16.fn (gl S X G "_law_right") (ok_right F_16.fn T R c_13 c_14 c_15) (F_16.fn.binds fun _ _ _ _ _ _ us hl => match us, hl with | [_, _], _ => rfl)
  have c_17 : ClG PW w K mg base 6 "_law_compared" (spCompared (Tk K)) := clG_of F_17.fn (gl S X G "_law_compared") (ok_compared F_17.fn T R) (F_17.fn.binds fun _ _ _ _ _ _ us hl => match us, hl with | [_, _], _ => rfl)
  have c_18 : Cl PW w K mg base 6 "_law_ordered" (spOrdered K (Tk K)) := cl_of F_18.fn (gl S X G "_law_ordered") (ok_ordered F_18.fn T R) (F_18.fn.binds fun _ _ _ _ _ _ us hl => match us, hl with | [_], _ => rfl)
  have c_18t : Cl PW w K mg base 6 "_law_ordered" (spOrderedT K) := cl_of F_18.fn (gl S X G "_law_ordered") (ok_orderedT F_18.fn T R) (F_18.fn.binds fun _ _ _ _ _ _ us hl => match us, hl with | [_], _ => rfl)
  exact ok_law F T R c_6 c_12 c_8 c_7 c_16 c_17 c_18 c_18t
end
end CT
/-! part ASM7 -/
set_option Elab.async false
set_option linter.all false
set_option maxRecDepth 100000
set_option maxHeartbeats 4000000
namespace CT
open PySem PySem.Spec PyProof.Rows L2
theorem walk {q : Program} {loose : List Str} {XP : (Str → Option Value) → Heap → Prop} {d : DefRec} (hdf : d.params.defaults = []) (hn : d.name = ("law" : Str)) :
    PySem.W.WalkO q loose XP (hookY 6).says (PySem.W.OpenLaw.row PySem.Challenge.rw_climbtickets_k01_tickets_by_hand).toRowW d [] (fun f vs => PySem.call f vs) := by
  refine Att.attach_callB (l := PySem.Challenge.rw_climbtickets_k01_tickets_by_hand) (n := 63) rfl hdf fun w s₀ s mg mb fa o pm cd doc a vs ns G Y ho hd hcd hmg hobj hints hlen hbits hg => ?_
  obtain ⟨K, X, S⟩ := Y
  obtain ⟨fd, F⟩ := df S 19 (d := dT "law" s_law) rfl rfl
  rw [hn] at hmg
  have e := hmg.symm.trans (gl S X G.T.g "law")
  cases e
  have bl : L2.Binds K fd ["script"] [] := F.fn.binds fun _ _ _ _ _ _ us hl => match us, hl with | [_], _ => rfl
  have hb : ∀ (s : Shared) (u : Value), BindsTo s fd ⟨[u], []⟩ [("script", u)] := by
    obtain ⟨oc, od, kV, doc, pm, an, ct, osl, rfl, _⟩ := F.ex
    exact fun s u => .of_eq rfl
  exact call_of X G.T.g G.T.b G.T.builtins G.T.nolimit hg S.mt1 S.mt2 S.out1 S.out2 S.hd1 S.hd2 S.ne1 S.ne2 G.T.bmain hobj hints hlen (fun base _ _ T1 T2 => law_ok S X G.T.g F.fn T1 T2) hb
end CT
open PySem PySem.W PySem.Calls PyProof.Rows
theorem PySem.Challenge.cw_climbtickets_k01_tickets_by_hand_holds : PySem.Challenge.rw_climbtickets_k01_tickets_by_hand.Holds := by
  w_on; o_law
  refine HandSHeadRun.head_any (r := CT.RR) (q := view CT.RR.prog [27]) (H := CT.hookY 6) (ob := CT.obT) (M := 6000) (loose := CT.others) (d := HandSHeadRun.topDef CT.RR.prog 27) (kwd := []) CT.obT_eq
    (by kernel_rfl) (fun s => by kernel_rfl) CT.head_run (by kernel_rfl) (by kernel_rfl) (by kernel_rfl) (by rfl) (by first | assumption | decide +kernel) (by decide +kernel) ⟨rfl, rfl, rfl, rfl, rfl, by decide +kernel⟩ ?hw ?hc
  case hw => w_witness2
  case hc => exact CT.walk (by kernel_rfl) (by kernel_rfl)
