import PyProof.Rows.All
import Wide.All
import OpenK.AllK
import Wide.FinOn
import HandS.ForMost
import HandS.Walk
import HandS.Flow
import HandS.Codes
import KE.KExcSuper
import HandS.Exc
import HandS.ExcOwn
import HandS.ExcInit
import HandS.MakeKwOnly
import HandS.ExcValue
import HandS.ExcIs
import HandS.ExcField
import HandS.IsInst
import KE.KExcIs
import PyProof.ReprRoads
import HandS.Zip
import HandS.AnyAll
import HandS.SetFor
import KE.GoesEnum
import KE.DataMinMax
import HandS.SortKw
import HandS.SlotsOwn
import PySem.Challenge.RW_samerounds_k78_exceptions_of_both_parts
set_option Elab.async false
set_option linter.all false
set_option maxRecDepth 100000
set_option maxHeartbeats 16000000
namespace Sg
open PySem PySem.Spec PyProof.Rows L2
def topS (i : Nat) : Stmt := PySem.Challenge.pw_samerounds_k78_exceptions_of_both_parts.main.body.getD i (.Pass ⟨0, 0, 0, 0⟩)
abbrev sMixed : Stmt := topS 23
abbrev sFolded : Stmt := topS 24
abbrev sDraw : Stmt := topS 25
abbrev sBegun : Stmt := topS 26

/-! ### small words on heaps -/
theorem same_new {H : Hp} {p : Addr} {o : HO} (h : H p = none) : Same H (upd H p o) := fun b x e => by
  rw [upd_ne (ne_of_none e h)]; exact e

theorem ite_ff {A B : Prop} (h : B) : if false = true then A else B := by rw [if_neg (by simp)]; exact h
theorem ite_tt {A B : Prop} (h : A) : if true = true then A else B := by rw [if_pos rfl]; exact h
theorem tyes_ite {σ : L2.St} {H : Hp} {A B : Hp → Prop} (h : A H) : tYes σ H (fun b H3 => if b = true then A H3 else B H3) := by
  show if true = true then A H else B H
  rw [if_pos rfl]
  exact h
section
variable {P : Program} {w : World} {K : PySem.W.Frag} {mg : Str → Option Value} {base : Heap}
/-! ### _law_mixed -/
def spMixed : Sp := fun vs H Q _ => ∃ (c n : Int), vs = [.int c, .int n] ∧ 0 ≤ n ∧ n < 1000000000 ∧ ∀ r : Int, 0 ≤ r → r < 1000000000 → Q (.int r) H
theorem scMixed : FnScope ["cell", "n", "blend"] ["cell", "n"] (defScope sMixed) := ⟨rfl, rfl, rfl, by decide +kernel, rfl, by decide +kernel, by decide +kernel⟩
theorem ok_mixed {f : Addr} {fd : FuncData} (F : Fun K "_law_mixed" "_law_mixed" sMixed f fd) (mi : mg "int" = none) : FnOk P w K mg base CX0 1 f fd ["cell", "n"] spMixed := by
  refine F.ok scMixed (fun vs H Q E h => ?_) (fun cdv A outer s H vs Q E hr h => ?_)
  · obtain ⟨c, n, rfl, _⟩ := h
    rfl
  · obtain ⟨c, n, rfl, n0, n1, q⟩ := h
    refine ⟨_, pss_cons (ps_set (i := 2) scMixed.nd rfl (.inl rfl)
        (pe_op op_add (pe_op op_add (pe_op op_mod (pe_callTy call_int1 (by rfl) mi (by decide +kernel) (pa_cons (pe_op op_mul (pe_op op_mul (pv 0) (pe_op op_add pe_int (pe_op op_mul pe_int (pv 1)))) pe_int) pa_nil)) pe_int)
          (pe_op op_mul (pe_op op_mul pe_int (pv 1)) (pv 1))) (pe_op op_mul pe_int (pv 1))))
      (pss_one (ps_ret (pe_op op_fdiv (pe_op op_mod (pe_callTy call_int1 (by rfl) mi (by decide +kernel) (pa_cons (pe_op op_mul (pv 2) pe_int) pa_nil)) pe_int) pe_int))), ?_⟩
    refine ⟨_, rfl, _, rfl, _, _, rfl, rfl, .inl ⟨by decide, by decide⟩, _, _, rfl, rfl, _, _, rfl, rfl, .inr ⟨by omega, by omega⟩, _, _, rfl, rfl, .inr ⟨by decide, by decide⟩, .inl ⟨_, rfl, ?_⟩⟩
    refine ⟨_, _, rfl, rfl, (by show (0 : Int) < 2147483647; decide), ?_⟩
    refine ⟨_, rfl, _, _, rfl, rfl, .inl ⟨by decide, by decide⟩, _, rfl, _, _, rfl, rfl, .inr ⟨by omega, by omega⟩, _, _, rfl, rfl, ?_⟩
    refine ⟨_, rfl, _, _, rfl, rfl, .inl ⟨by decide, by decide⟩, _, _, rfl, rfl, ?_⟩
    refine ⟨_, rfl, _, _, rfl, rfl, .inr ⟨by decide, by decide⟩, .inl ⟨_, rfl, ?_⟩⟩
    refine ⟨_, _, rfl, rfl, (by show (0 : Int) < 2147483629; decide), _, _, rfl, rfl, ⟨by decide, by decide⟩, ?_⟩
    exact q _ (by omega) (by omega)
/-! ### _law_folded -/
def Cells (cs : List Int) : Prop := cs.length = 64 ∧ ∀ c ∈ cs, 0 ≤ c ∧ c < 2147483647
theorem Cells.get {cs : List Int} (h : Cells cs) {i : Nat} (hi : i < 64) : ∃ c : Int, cs[i]? = some c ∧ 0 ≤ c ∧ c < 2147483647 := by
  have hl : i < cs.length := by rw [h.1]; exact hi
  exact ⟨cs[i], List.getElem?_eq_getElem hl, h.2 _ (List.getElem_mem hl)⟩
theorem Cells.set {cs : List Int} (h : Cells cs) (i : Nat) {c : Int} (h0 : 0 ≤ c) (h1 : c < 2147483647) : Cells (cs.set i c) := by
  refine ⟨by rw [List.length_set]; exact h.1, fun x hx => ?_⟩
  rcases List.mem_or_eq_of_mem_set hx with q | q
  · exact h.2 x q
  · rw [q]; exact ⟨h0, h1⟩
theorem map_get {cs : List Int} {i : Nat} {c : Int} (h : cs[i]? = some c) : (cs.map V.int)[i]? = some (V.int c) := by
  rw [List.getElem?_map, h]; rfl
theorem ixN_nat {n i : Nat} (h : i < n) : ixN n (i : Int) = some i := by
  unfold ixN
  first | (simp [h]; done) | (simp; omega) | (split <;> simp_all <;> omega)
def spFolded (K : PySem.W.Frag) : Sp := fun vs H Q _ => ∃ (a : Addr) (ns : List Int), vs = [.ref a] ∧ SqL K H a (ns.map V.int) ∧ ns.length ≤ 63 ∧
  ∀ H' p cs, Same H H' → H p = none → H' p = some (.lst (cs.map V.int)) → Cells cs → Q (.ref p) H'
theorem scFolded : FnScope ["script", "found", "n", "cell"] ["script"] (defScope sFolded) := ⟨rfl, rfl, rfl, by decide +kernel, rfl, by decide +kernel, by decide +kernel⟩
theorem ok_folded {f : Addr} {fd : FuncData} (F : Fun K "_law_folded" "_law_folded" sFolded f fd) (mi : mg "int" = none) (mr : mg "range" = none) (me : mg "enumerate" = none) : FnOk P w K mg base CX0 1 f fd ["script"] (spFolded K) := by
  refine F.ok scFolded (fun vs H Q E h => ?_) (fun cdv A outer s H vs Q E hr h => ?_)
  · obtain ⟨a, ns, rfl, _⟩ := h
    rfl
  · obtain ⟨a, ns, rfl, hS, hl, q⟩ := h
    refine ⟨_, pss_cons (ps_setLc (i := 1) (own := [("n", 2)]) (g := gName 2) (tt := tYes) rfl scFolded.nd rfl rfl (sw_true rfl rfl rfl (by decide +kernel)) (pi_range1 rfl mr (pa_cons pe_int pa_nil))
        (blkOk_by (own := [("n", 2)]) (N := ["script", "found", "n", "cell"]) (sc := defScope sFolded) (by decide +kernel)) (fun _ _ _ _ _ => pg_name (i := 2) scFolded.nd rfl (Or.inl rfl)) (fun _ _ _ _ _ => pts_nil) (fun _ _ _ _ _ => pe_op op_add pe_int (pv 2)))
      (pss_cons (ps_for PassesOwn.never rfl (pi_enum (by rfl) me (pa_cons (pv 0) pa_nil)) (pg_tup rfl (pgs_cons (pg_name (i := 2) scFolded.nd rfl (.inl rfl)) (pgs_cons (pg_name (i := 3) scFolded.nd rfl (.inl rfl)) pgs_nil)))
        (pss_one (ps_asg (pe_op op_mod (pe_callTy call_int1 (by rfl) mi (by decide +kernel) (pa_cons (pe_op op_add (pe_op op_mul (pe_ix ix_list (pv 1) (pe_op op_mod (pe_callTy call_int1 (by rfl) mi (by decide +kernel) (pa_cons (pv 2) pa_nil)) pe_int) (fun _ _ => rfl)) pe_int) (pv 3)) pa_nil)) pe_int)
          (pg_sub (pv 1) (pe_op op_mod (pe_callTy call_int1 (by rfl) mi (by decide +kernel) (pa_cons (pv 2) pa_nil)) pe_int) set_list))))
      (pss_cons (ps_for PassesOwn.never rfl (pi_range2 (by rfl) mr (pa_cons pe_int (pa_cons pe_int pa_nil))) (pg_name (i := 2) scFolded.nd rfl (.inl rfl))
        (pss_one (ps_asg (pe_op op_mod (pe_callTy call_int1 (by rfl) mi (by decide +kernel) (pa_cons (pe_op op_add (pe_ix ix_list (pv 1) (pv 2) (fun _ _ => rfl)) (pe_op op_mul (pe_ix ix_list (pv 1) (pe_op op_sub (pv 2) pe_int) (fun _ _ => rfl)) pe_int)) pa_nil)) pe_int)
          (pg_sub (pv 1) (pv 2) set_list))))
      (pss_one (ps_ret (pv 1))))), ?_⟩
    -- found = [17 + n for n in range(64)]
    refine ⟨64, rfl, by decide, by decide, fun D hD => ?_⟩
    refine lc_range (lo := 0) (n := 64) (fun i H' => Same H H' ∧ ∃ cs : List Int, cs.length = i ∧ H' D = some (.lst (cs.map V.int)) ∧ ∀ c ∈ cs, 0 ≤ c ∧ c < 2147483647) ⟨same_new hD, [], rfl, upd_same, fun _ z => nomatch z⟩ (fun i H1 hi hp => ?_) (fun H1 hp => ?_)
    · obtain ⟨sm, cs, el, eD, hc⟩ := hp
      refine ⟨rfl, ?_⟩
      refine tyes_ite ?_
      refine ⟨_, rfl, _, _, rfl, rfl, _, eD, ?_, ?_, cs ++ [17 + (0 + (i : Int))], by simp [el], ?_, fun c hc' => ?_⟩
      · rw [List.length_map, el]; exact small1000 (by omega)
      · intro b o e
        rw [upd_ne (ne_of_none e hD)]
        exact sm b o e
      · rw [upd_same, List.map_append]; rfl
      · rcases List.mem_append.mp hc' with z | z
        · exact hc c z
        · rw [List.mem_singleton.mp z]; omega
    obtain ⟨sm, cs, el, eD, hc⟩ := hp
    have C0 : Cells cs := ⟨el, hc⟩
    clear hc el
    -- for n, cell in enumerate(script)
    refine ⟨_, rfl, a, ns.map V.int, rfl, sm.seq hS, ?_⟩
    refine for_it (walk_enum (xs := ns.map V.int)) (fun i σ H' => ∃ y2 y3 cs, σ = [some (.ref a), some (.ref D), y2, y3] ∧ Same H H' ∧ H' D = some (.lst (cs.map V.int)) ∧ Cells cs) ⟨_, _, cs, rfl, sm, eD, C0⟩ (fun i σ H' _ hp => ?_) (fun i x σ H2 H3 hi hp hy => ?_) (fun σ H2 hp => ?_)
    · obtain ⟨_, _, _, _, s2, _⟩ := hp
      exact s2.seq hS
    · obtain ⟨y2, y3, cs, rfl, s2, e2, C2⟩ := hp
      obtain ⟨T, x1, x2, rfl, nT, rfl, f1, f2⟩ := hy
      cases f1
      have f2 : (ns.map V.int)[i]? = some x2 := f2
      obtain ⟨u, rfl⟩ : ∃ u, x2 = V.int u := by
        rw [List.getElem?_map] at f2
        cases e : ns[i]? with
        | none => rw [e] at f2; cases f2
        | some u => rw [e] at f2; exact ⟨u, (Option.some.inj f2).symm⟩
      have nTD : D ≠ T := ne_of_none e2 nT
      have hi' : i < 63 := by rw [List.length_map] at hi; omega
      have e3 : (upd H2 T (.tup [.int (i : Nat), .int u])) D = some (.lst (cs.map V.int)) := by rw [upd_ne nTD]; exact e2
      have em : ((i : Nat) : Int) % 64 = ((i : Nat) : Int) := Int.emod_eq_of_lt (by omega) (by omega)
      obtain ⟨c, gc, c0, c1⟩ := C2.get (i := i) (by omega)
      refine ⟨T, _, rfl, .inl (.inl upd_same), rfl, _, _, rfl, _, _, rfl, rfl, ?_⟩
      refine ⟨_, rfl, _, rfl, .inl ⟨_, rfl, ?_⟩⟩
      refine ⟨_, _, rfl, rfl, (by show (0 : Int) < 64; decide), ?_⟩
      refine ⟨D, _, _, .int c, rfl, rfl, SqL.of e3, (by rw [em]; exact atI_nat (map_get gc)), _, _, rfl, rfl, .inr ⟨by decide, by decide⟩, ?_⟩
      refine ⟨_, rfl, _, _, rfl, rfl, .inl ⟨_, rfl, ?_⟩⟩
      refine ⟨_, _, rfl, rfl, (by show (0 : Int) < 2147483647; decide), ?_⟩
      refine ⟨_, rfl, _, rfl, .inl ⟨_, rfl, ?_⟩⟩
      refine ⟨_, _, rfl, rfl, (by show (0 : Int) < 64; decide), ?_⟩
      refine ⟨D, _, _, i, rfl, rfl, e3, (by rw [em, List.length_map, C2.1]; exact ixN_nat (by omega)), ?_⟩
      refine ⟨_, _, cs.set i ((c * 48271 + u) % 2147483647), rfl, fun b o e => ?_, ?_, C2.set i (by omega) (by omega)⟩
      · have nb : b ≠ D := ne_of_none e hD
        rw [upd_ne nb, upd_ne (ne_of_none (s2 _ _ e) nT)]
        exact s2 _ _ e
      · rw [upd_same, List.map_set]
    obtain ⟨y2, y3, cs, rfl, s2, e2, C2⟩ := hp
    -- for n in range(1, 64)
    refine ⟨1, 64, rfl, ⟨by decide, by decide, by decide, by decide⟩, ?_⟩
    refine for_range (lo := 1) (n := 63) (fun i σ H' => ∃ y2 y3 cs, σ = [some (.ref a), some (.ref D), y2, y3] ∧ Same H H' ∧ H' D = some (.lst (cs.map V.int)) ∧ Cells cs) ⟨_, _, cs, rfl, s2, e2, C2⟩ (fun i σ H3 hi hp => ?_) (fun σ H3 hp => ?_)
    · obtain ⟨y2, y3, cs, rfl, s3, e3, C3⟩ := hp
      obtain ⟨c, gc, c0, c1⟩ := C3.get (i := i + 1) (by omega)
      obtain ⟨d, gd, d0, d1⟩ := C3.get (i := i) (by omega)
      have ei : (1 + (i : Int)) = ((i + 1 : Nat) : Int) := by omega
      have ej : (1 + (i : Int)) - 1 = ((i : Nat) : Int) := by omega
      refine ⟨_, rfl, _, rfl, D, _, _, .int c, rfl, rfl, SqL.of e3, (by rw [ei]; exact atI_nat (map_get gc)), ?_⟩
      refine ⟨_, rfl, _, rfl, _, _, rfl, rfl, D, _, _, .int d, rfl, rfl, SqL.of e3, (by rw [ej]; exact atI_nat (map_get gd)), _, _, rfl, rfl, .inr ⟨by decide, by decide⟩, _, _, rfl, rfl, .inl ⟨_, rfl, ?_⟩⟩
      refine ⟨_, _, rfl, rfl, (by show (0 : Int) < 2147483647; decide), ?_⟩
      refine ⟨_, rfl, _, rfl, D, _, _, i + 1, rfl, rfl, e3, (by rw [ei, List.length_map, C3.1]; exact ixN_nat (by omega)), ?_⟩
      refine ⟨_, _, cs.set (i + 1) ((c + d * 16807) % 2147483647), rfl, fun b o e => ?_, ?_, C3.set _ (by omega) (by omega)⟩
      · rw [upd_ne (ne_of_none e hD)]
        exact s3 _ _ e
      · rw [upd_same, List.map_set]
    obtain ⟨y2, y3, cs, rfl, s3, e3, C3⟩ := hp
    exact ⟨_, rfl, q _ _ cs s3 hD e3 C3⟩
/-! ### _law_begun: the draws' state -/
abbrev kC : Key := Sum.inr "cells"
abbrev kG : Key := Sum.inr "great"
abbrev kS : Key := Sum.inr "spot"
theorem nCG : ¬ kC = kG := by decide +kernel
theorem nCS : ¬ kC = kS := by decide +kernel
theorem nGS : ¬ kG = kS := by decide +kernel
def kvM (c g : Addr) (k : Int) : List (Key × V) := [(kC, .ref c), (kG, .ref g), (kS, .int k)]
theorem kvM_c {c g : Addr} {k : Int} : valV (kvM c g k) kC = some (.ref c) := valV_pos rfl
theorem kvM_g {c g : Addr} {k : Int} : valV (kvM c g k) kG = some (.ref g) := (valV_neg (p := (kC, V.ref c)) nCG).trans (valV_pos rfl)
theorem kvM_s {c g : Addr} {k : Int} : valV (kvM c g k) kS = some (.int k) := (valV_neg (p := (kC, V.ref c)) nCS).trans ((valV_neg (p := (kG, V.ref g)) nGS).trans (valV_pos rfl))
theorem kvM_putS {c g : Addr} {k j : Int} : putK (kvM c g k) kS (.int j) = kvM c g j := by
  unfold putK
  rw [if_pos (by simp [kvM])]
  simp only [kvM, List.map_cons, List.map_nil, if_neg nCS, if_neg nGS, if_true]
theorem kvM_putG {c g h : Addr} {k : Int} : putK (kvM c g k) kG (.ref h) = kvM c h k := by
  unfold putK
  rw [if_pos (by simp [kvM])]
  simp only [kvM, List.map_cons, List.map_nil, if_neg nCG, if_neg (Ne.symm nGS), if_true]
theorem kvM_make {c g : Addr} {k : Int} : mergeK [] [(kC, V.ref c), (kG, V.ref g), (kS, V.int k)] = kvM c g k := by
  show putK (putK (putK [] kC (V.ref c)) kG (V.ref g)) kS (V.int k) = kvM c g k
  rw [putK_new (kvs := []) _ rfl, putK_new (kvs := [] ++ [(kC, V.ref c)]) _ (by rw [List.nil_append, valV_neg (p := (kC, V.ref c)) nCG]; rfl), putK_new _ (by
    rw [List.nil_append, List.singleton_append, valV_neg (p := (kC, V.ref c)) nCS, valV_neg (p := (kG, V.ref g)) nGS]; rfl)]
  rfl
/-- the draws' state: m the dict, g its list of great cells; k the next draw's number -/
def MSt (H : Hp) (m g : Addr) (k : Int) : Prop := 0 ≤ k ∧ ∃ (c : Addr) (cs gs : List Int), H m = some (.dK (kvM c g k)) ∧ H c = some (.lst (cs.map V.int)) ∧ H g = some (.lst (gs.map V.int)) ∧ Cells cs ∧ gs.length ≤ 63
/-- all but the draws' state is as it was -/
def But (m g : Addr) (H H' : Hp) : Prop := ∀ b o, H b = some o → b ≠ m → b ≠ g → H' b = some o
theorem But.refl {m g : Addr} {H : Hp} : But m g H H := fun _ _ e _ _ => e
theorem But.trans {m g : Addr} {H H1 H2 : Hp} (a : But m g H H1) (b : But m g H1 H2) : But m g H H2 := fun c o e h1 h2 => b c o (a c o e h1 h2) h1 h2
theorem But.of {m g : Addr} {H H1 : Hp} (a : Same H H1) : But m g H H1 := fun c o e _ _ => a c o e
/-- other objects are made, others are changed -/
theorem MSt.keep {H H' : Hp} {m g : Addr} {k : Int} (M : MSt H m g k) (h : ∀ b o, H b = some o → (∃ kvs, o = .dK kvs) ∨ (∃ xs, o = .lst xs) → H' b = some o) : MSt H' m g k := by
  obtain ⟨k0, c, cs, gs, h1, h2, h3, C, gl⟩ := M
  exact ⟨k0, c, cs, gs, h _ _ h1 (.inl ⟨_, rfl⟩), h _ _ h2 (.inr ⟨_, rfl⟩), h _ _ h3 (.inr ⟨_, rfl⟩), C, gl⟩
theorem MSt.same {H H' : Hp} {m g : Addr} {k : Int} (M : MSt H m g k) (h : Same H H') : MSt H' m g k := M.keep fun b o e _ => h b o e
def spBegun (K : PySem.W.Frag) : Sp := fun vs H Q _ => ∃ (a : Addr) (ns : List Int), vs = [.ref a] ∧ SqL K H a (ns.map V.int) ∧ ns.length ≤ 63 ∧
  ∀ H' m g, Same H H' → H m = none → H g = none → MSt H' m g 0 → Q (.ref m) H'
theorem scBegun : FnScope ["script", "m", "cell"] ["script"] (defScope sBegun) := ⟨rfl, rfl, rfl, by decide +kernel, rfl, by decide +kernel, by decide +kernel⟩
theorem ok_begun {f fF : Addr} {fd fdF : FuncData} (F : Fun K "_law_begun" "_law_begun" sBegun f fd) (GF : FnOk P w K mg base CX0 1 fF fdF ["script"] (spFolded K)) (gF : mg "_law_folded" = some (.ref fF)) (kF : PySem.W.keepIn K (.ref fF) = true) (bF : Binds K fdF ["script"] []) :
    FnOk P w K mg base CX0 2 f fd ["script"] (spBegun K) := by
  refine F.ok scBegun (fun vs H Q E h => ?_) (fun cdv A outer s H vs Q E hr h => ?_)
  · obtain ⟨a, ns, rfl, _⟩ := h
    rfl
  · obtain ⟨a, ns, rfl, hS, hl, q⟩ := h
    have hu := hu_of hr
    refine ⟨_, pss_cons (ps_set (i := 1) scBegun.nd rfl (.inl rfl) (pe_disp (pps_cons pe_str (pe_call GF hr (by rfl) gF kF bF .nil pass0 (pa_cons (pv 0) pa_nil)) (pps_cons pe_str (pe_lst pa_nil) (pps_cons pe_str pe_int pps_nil))) (by rfl) (by rfl) (fun z => by cases z) (by decide)))
      (pss_cons (ps_dput hu (pv 1) pe_str (pe_lc (own := [("cell", 2)]) (g := gName 2) (tt := tYes) (by rfl) scBegun.nd (pi_list (pv 0)) (blkOk_by (own := [("cell", 2)]) (N := ["script", "m", "cell"]) (sc := defScope sBegun) (by decide +kernel))
          (fun _ _ _ _ _ => pg_name (i := 2) scBegun.nd rfl (Or.inl rfl)) (fun _ _ _ _ _ => pts_nil) (fun _ _ _ _ _ => pe_ifExp (pt_cmpR op_ge (pv 2) (pe_op op_pow pe_int pe_int) (nomark _)) (pv 2) pe_int)) rfl)
      (pss_one (ps_ret (pv 1)))), ?_⟩
    -- the display
    intro m nm
    have s1 : Same H (upd H m (.dK [])) := same_new nm
    refine ⟨_, rfl, a, ns, rfl, s1.seq hS, hl, fun H1 c cs s2 nc e1 C => ?_⟩
    refine ⟨Nat.zero_le _, fun g0 ng0 => ?_⟩
    have hm1 : H1 m = some (.dK []) := s2 _ _ upd_same
    have nmg : m ≠ g0 := ne_of_none hm1 ng0
    refine ⟨(by rw [upd_ne nmg]; exact hm1), [(kC, .ref c), (kG, .ref g0), (kS, .int 0)], rfl, (by show 3 ≤ 15; decide), ?_⟩
    rw [kvM_make]
    have nmc : m ≠ c := fun z => by rw [z, e1] at hm1; cases hm1
    have ncg0 : c ≠ g0 := ne_of_none e1 ng0
    have s3 : Same H (upd (upd H1 g0 (.lst [])) m (.dK (kvM c g0 0))) := fun b o e => by
      rw [upd_ne (ne_of_none e nm), upd_ne (ne_of_none (s2 _ _ (s1 _ _ e)) ng0)]
      exact s2 _ _ (s1 _ _ e)
    generalize hH2 : upd (upd H1 g0 (.lst [])) m (.dK (kvM c g0 0)) = H2 at s3 ⊢
    have em : H2 m = some (.dK (kvM c g0 0)) := by rw [← hH2]; exact upd_same
    have ec : H2 c = some (.lst (cs.map V.int)) := by rw [← hH2, upd_ne nmc.symm, upd_ne ncg0]; exact e1
    -- the comprehension
    refine ⟨_, rfl, a, rfl, ⟨_, s3.seq hS⟩, fun g ng => ?_⟩
    have ngm : m ≠ g := ne_of_none em ng
    have ngc : c ≠ g := ne_of_none ec ng
    have n0g : H g = none := s3.free ng
    refine lc_list (K := K) (a := a) (xs := ns.map V.int) (fun i H' => Same H2 H' ∧ ∃ gs : List Int, gs.length = i ∧ H' g = some (.lst (gs.map V.int))) ⟨same_new ng, [], rfl, upd_same⟩ (fun i H' _ hp => hp.1.seq (s3.seq hS)) (fun i x H' hx hp => ?_) (fun H' hp => ?_)
    · obtain ⟨sm, gs, el, eg⟩ := hp
      obtain ⟨u, rfl⟩ : ∃ u, x = V.int u := by
        rw [List.getElem?_map] at hx
        cases e : ns[i]? with
        | none => rw [e] at hx; cases hx
        | some u => rw [e] at hx; exact ⟨u, (Option.some.inj hx).symm⟩
      have hi : i < ns.length := by
        have := (List.getElem?_eq_some_iff.mp hx).1
        rw [List.length_map] at this
        exact this
      have fin : ∀ z : Int, ∃ acc, H' g = some (.lst acc) ∧ acc.length < sizeLine ∧ Same H2 (upd H' g (.lst (acc ++ [V.int z]))) ∧ ∃ gs : List Int, gs.length = i + 1 ∧ (upd H' g (.lst (acc ++ [V.int z]))) g = some (.lst (gs.map V.int)) := fun z =>
        ⟨_, eg, by rw [List.length_map, el]; exact small1000 (by omega), fun b o e => by rw [upd_ne (ne_of_none e ng)]; exact sm _ _ e, gs ++ [z], by simp [el], by rw [upd_same, List.map_append]; rfl⟩
      refine ⟨rfl, ?_⟩
      refine tyes_ite ?_
      refine ⟨_, rfl, _, _, rfl, rfl, ⟨by decide, by decide, by decide⟩, _, _, rfl, rfl, _, rfl, ite2 (fun _ => ?_) (fun _ => ?_)⟩
      · exact ⟨_, rfl, fin u⟩
      · exact fin 0
    · obtain ⟨sm, gs, el, eg⟩ := hp
      refine ⟨_, rfl, _, _, rfl, DPut.k (k := kG) (sm _ _ em) (by show 3 < sizeLine; decide), ?_⟩
      rw [kvM_putG]
      refine ⟨_, rfl, q _ m g (fun b o e => ?_) nm n0g ⟨by decide, c, cs, gs, upd_same, ?_, ?_, C, ?_⟩⟩
      · rw [upd_ne (ne_of_none e nm)]
        exact sm _ _ (s3 _ _ e)
      · rw [upd_ne nmc.symm]; exact sm _ _ ec
      · rw [upd_ne ngm.symm]; exact eg
      · rw [List.length_map] at el; omega
/-! ### _law_draw -/
theorem dpAll_ints {H : Hp} : ∀ gs : List Int, DpAll K H (gs.map V.int) (gs.map PyData.int)
  | [] => .nil
  | i :: r => .cons (.int i) (dpAll_ints r)
theorem canLay_ints : ∀ gs : List Int, PyData.canLayAll0 (gs.map PyData.int) = true
  | [] => rfl
  | _ :: r => by
    show (true && PyData.canLayAll0 (r.map PyData.int)) = true
    rw [canLay_ints r]; rfl
theorem depth_ints : ∀ gs : List Int, PyData.depthAll (gs.map PyData.int) = 0
  | [] => rfl
  | _ :: r => by
    show max 0 (PyData.depthAll (r.map PyData.int)) = 0
    rw [depth_ints r]; rfl
theorem shaped_ints (gs : List Int) : SeqAt.shaped (.list (gs.map PyData.int)) = true := by
  show (PyData.canLayAll0 (gs.map PyData.int) && decide (PyData.depthAll (gs.map PyData.int) + 1 ≤ 64)) = true
  rw [canLay_ints, depth_ints]; rfl
def spDraw : Sp := fun vs H Q _ => ∃ (m g : Addr) (k l : Int), vs = [.ref m, .int l] ∧ MSt H m g k ∧ k < 1000000 ∧ 1 ≤ l ∧ l < 1000000000 ∧
  ∀ (r : Int) H', 0 ≤ r → r < l → MSt H' m g (k + 1) → But m g H H' → Q (.int r) H'
theorem scDraw : FnScope ["m", "limit", "n", "lot", "here", "cell"] ["m", "limit"] (defScope sDraw) := ⟨rfl, rfl, rfl, by decide +kernel, rfl, by decide +kernel, by decide +kernel⟩
theorem ok_draw {f fF : Addr} {fd fdF : FuncData} (F : Fun K "_law_draw" "_law_draw" sDraw f fd) (GF : FnOk P w K mg base CX0 1 fF fdF ["cell", "n"] spMixed) (gF : mg "_law_mixed" = some (.ref fF)) (kF : PySem.W.keepIn K (.ref fF) = true) (bF : Binds K fdF ["cell", "n"] [])
    (mi : mg "int" = none) (ml : mg "len" = none) : FnOk P w K mg base CX0 2 f fd ["m", "limit"] spDraw := by
  refine F.ok scDraw (fun vs H Q E h => ?_) (fun cdv A outer s H vs Q E hr h => ?_)
  · obtain ⟨m, g, k, l, rfl, _⟩ := h
    rfl
  · obtain ⟨m, g, k, l, rfl, ⟨k0, c, cs, gs, h1, h2, h3, C, gl⟩, k1, l0, l1, q⟩ := h
    have hu := hu_of hr
    refine ⟨_, pss_cons (ps_set (i := 2) scDraw.nd rfl (.inl rfl) (pe_dget hu (pv 0) pe_str (fun _ _ => rfl)))
      (pss_cons (ps_dput hu (pv 0) pe_str (pe_op op_add (pv 2) pe_int) rfl)
      (C8.pss_cut (ps_if (pt_cmpR (op_neD hr.units) (pe_dget hu (pv 0) pe_str (fun _ _ => rfl)) (pe_lst pa_nil) (nomark _))
        (pss_cons (ps_set (i := 3) scDraw.nd rfl (.inl rfl) (pe_dget hu (pv 0) pe_str (fun _ _ => rfl)))
        (pss_cons (ps_set (i := 4) scDraw.nd rfl (.inl rfl) (pe_op op_mod (pe_callTy call_int1 (by rfl) mi (by decide +kernel) (pa_cons (pv 2) pa_nil)) (pe_callB call_len_seq (by rfl) ml PySem.boot_len (pa_cons (pv 3) pa_nil))))
        (pss_cons (ps_set (i := 5) scDraw.nd rfl (.inl rfl) (pe_ix ix_list (pv 3) (pv 4) (fun _ _ => rfl)))
        (pss_one (ps_if (pt_cmpR op_gt (pv 5) pe_int (nomark _))
          (pss_cons (ps_asg (pe_op op_fdivN (pv 5) (pv 1)) (pg_sub (pv 3) (pv 4) set_list))
          (pss_one (ps_ret (pe_op op_mod (pe_callTy call_int1 (by rfl) mi (by decide +kernel) (pa_cons (pv 5) pa_nil)) (pv 1))))) pss_nil))))) pss_nil)
      (pss_cons (ps_set (i := 3) scDraw.nd rfl (.inl rfl) (pe_dget hu (pv 0) pe_str (fun _ _ => rfl)))
      (pss_one (ps_ret (pe_op op_mod (pe_callTy call_int1 (by rfl) mi (by decide +kernel) (pa_cons (pe_call GF hr (by rfl) gF kF bF .nil pass0
        (pa_cons (pe_call GF hr (by rfl) gF kF bF .nil pass0 (pa_cons (pe_op op_add (pe_ix ix_list (pv 3) (pe_op op_mod (pe_callTy call_int1 (by rfl) mi (by decide +kernel) (pa_cons (pv 2) pa_nil)) pe_int) (fun _ _ => rfl)) (pe_op op_mul pe_int (pe_op op_fdiv (pv 2) pe_int))) (pa_cons (pv 2) pa_nil)))
          (pa_cons (pe_op op_add (pv 2) pe_int) pa_nil))) pa_nil)) (pv 1))))))), ?_⟩
    have ncm : c ≠ m := fun z => by rw [z, h1] at h2; cases h2
    have ngm : g ≠ m := fun z => by rw [z, h1] at h3; cases h3
    have ncg : c ≠ g := fun z => by
      rw [z, h3] at h2
      have y : gs.map V.int = cs.map V.int := by injection (Option.some.inj h2)
      have y2 := congrArg List.length y
      rw [List.length_map, List.length_map, C.1] at y2
      omega
    -- n = m['spot']; m['spot'] = n + 1
    refine ⟨_, rfl, m, _, rfl, (by rw [← kvM_s (c := c) (g := g) (k := k)]; exact DGet.k (k := kS) h1), ?_⟩
    refine ⟨_, rfl, _, _, rfl, rfl, _, rfl, m, _, rfl, DPut.k (k := kS) h1 (by show 3 < sizeLine; decide), ?_⟩
    rw [kvM_putS]
    generalize hH1 : upd H m (.dK (kvM c g (k + 1))) = H1
    have a1 : H1 m = some (.dK (kvM c g (k + 1))) := by rw [← hH1]; exact upd_same
    have a2 : H1 c = some (.lst (cs.map V.int)) := by rw [← hH1, upd_ne ncm]; exact h2
    have a3 : H1 g = some (.lst (gs.map V.int)) := by rw [← hH1, upd_ne ngm]; exact h3
    have a4 : But m g H H1 := fun b o e n1 _ => by rw [← hH1, upd_ne n1]; exact e
    -- if m['great'] != []:
    refine ⟨fun σ H' => ∃ y3 y4 y5, σ = [some (.ref m), some (.int l), some (.int k), y3, y4, y5] ∧ (H' m = some (.dK (kvM c g (k + 1))) ∧ H' c = some (.lst (cs.map V.int)) ∧ H' g = some (.lst (gs.map V.int))) ∧ Same H1 H', ?_, ?_⟩
    · refine ⟨_, rfl, m, _, rfl, (by rw [← kvM_g (c := c) (g := g) (k := k + 1)]; exact DGet.k (k := kG) a1), Nat.zero_le _, fun p np => ?_⟩
      have s2 : Same H1 (upd H1 p (.lst [])) := same_new np
      generalize hH2 : upd H1 p (.lst []) = H2 at s2 ⊢
      have ep : H2 p = some (.lst []) := by rw [← hH2]; exact upd_same
      refine ⟨.list (gs.map PyData.int), .list [], .lst (SqL.of (s2 _ _ a3)) (dpAll_ints gs), .lst (SqL.of ep) .nil, shaped_ints gs, rfl, _, rfl, ?_⟩
      have out : ∀ y3 y4 y5 : Option V, ∃ z3 z4 z5, [some (V.ref m), some (.int l), some (.int k), y3, y4, y5] = [some (V.ref m), some (.int l), some (.int k), z3, z4, z5] ∧ (H2 m = some (.dK (kvM c g (k + 1))) ∧ H2 c = some (.lst (cs.map V.int)) ∧ H2 g = some (.lst (gs.map V.int))) ∧ Same H1 H2 :=
        fun y3 y4 y5 => ⟨y3, y4, y5, rfl, ⟨s2 _ _ a1, s2 _ _ a2, s2 _ _ a3⟩, s2⟩
      cases gs with
      | nil => exact out _ _ _
      | cons g0 gr =>
        -- lot = m['great']; here = int(n) % len(lot); cell = lot[here]
        refine ⟨_, rfl, m, _, rfl, (by rw [← kvM_g (c := c) (g := g) (k := k + 1)]; exact DGet.k (k := kG) (s2 _ _ a1)), ?_⟩
        refine ⟨_, rfl, .inl ⟨_, rfl, _, rfl, g, _, rfl, .inl (SqL.of (s2 _ _ a3)), _, _, rfl, rfl, (by rw [List.length_map, List.length_cons]; omega), ?_⟩⟩
        generalize hj : k % (((g0 :: gr).map V.int).length : Int) = j
        have hlen : (((g0 :: gr).map V.int).length : Int) = (gr.length : Int) + 1 := by rw [List.length_map, List.length_cons]; omega
        have j0 : 0 ≤ j := by rw [← hj]; exact Int.emod_nonneg _ (by omega)
        have j1 : j < (gr.length : Int) + 1 := by rw [← hj, hlen]; exact Int.emod_lt_of_pos _ (by omega)
        obtain ⟨jn, rfl⟩ := Int.eq_ofNat_of_zero_le j0
        have hjn : jn < (g0 :: gr).length := by rw [List.length_cons]; omega
        have gj : (g0 :: gr)[jn]? = some ((g0 :: gr)[jn]) := List.getElem?_eq_getElem hjn
        generalize (g0 :: gr)[jn] = ce at gj
        refine ⟨_, rfl, _, rfl, g, _, _, .int ce, rfl, rfl, SqL.of (s2 _ _ a3), (by rw [hj]; exact atI_nat (map_get gj)), ?_⟩
        refine ⟨_, rfl, _, _, rfl, rfl, _, rfl, ite2 (fun _ => ?_) (fun _ => ?_)⟩
        · refine ⟨_, rfl, _, rfl, _, _, rfl, rfl, ⟨by omega, by omega⟩, _, rfl, _, rfl, g, _, _, jn, rfl, rfl, s2 _ _ a3, (by rw [hj, List.length_map]; exact ixN_nat hjn), ?_⟩
          refine ⟨_, rfl, .inl ⟨_, rfl, ?_⟩⟩
          refine ⟨_, rfl, _, _, rfl, rfl, (by omega), ?_⟩
          refine q _ _ (Int.emod_nonneg _ (by omega)) (Int.emod_lt_of_pos _ (by omega)) ⟨by omega, c, cs, (g0 :: gr).set jn (ce.fdiv l), ?_, ?_, ?_, C, ?_⟩ (fun b o e n1 n2 => ?_)
          · rw [upd_ne ngm.symm]; exact s2 _ _ a1
          · rw [upd_ne ncg]; exact s2 _ _ a2
          · rw [upd_same, List.map_set]
          · rw [List.length_set]; exact gl
          · rw [upd_ne n2]; exact s2 _ _ (a4 _ _ e n1 n2)
        · exact out _ _ _
    · rintro σ H2 ⟨y3, y4, y5, rfl, ⟨b1, b2, b3⟩, s2⟩
      -- lot = m['cells']; the rest
      obtain ⟨kn, rfl⟩ := Int.eq_ofNat_of_zero_le k0
      have hm64 : ((kn : Int) % 64) = ((kn % 64 : Nat) : Int) := by omega
      obtain ⟨ce, gc, c0, c1⟩ := C.get (i := kn % 64) (by omega)
      refine ⟨_, rfl, m, _, rfl, (by rw [← kvM_c (c := c) (g := g) (k := (kn : Int) + 1)]; exact DGet.k (k := kC) b1), ?_⟩
      refine ⟨_, rfl, _, rfl, .inl ⟨_, rfl, ?_⟩⟩
      refine ⟨_, _, rfl, rfl, (by show (0 : Int) < 64; decide), ?_⟩
      refine ⟨c, _, _, .int ce, rfl, rfl, SqL.of b2, (by rw [hm64]; exact atI_nat (map_get gc)), ?_⟩
      refine ⟨_, rfl, _, _, rfl, rfl, ⟨by decide, by decide⟩, _, _, rfl, rfl, .inl ⟨by decide, by decide⟩, _, _, rfl, rfl, _, rfl, ?_⟩
      refine ⟨_, _, rfl, by omega, by omega, fun r1 r10 r11 => ?_⟩
      refine ⟨_, rfl, _, _, rfl, rfl, _, _, rfl, by omega, by omega, fun r2 r20 r21 => ?_⟩
      refine .inl ⟨_, rfl, ?_⟩
      refine ⟨_, rfl, _, _, rfl, rfl, (by omega), ?_⟩
      exact q _ _ (Int.emod_nonneg _ (by omega)) (Int.emod_lt_of_pos _ (by omega)) ⟨by omega, c, cs, gs, b1, b2, b3, C, gl⟩ (a4.trans (But.of s2))
end
end Sg

/-! Exceptions of the program's own whose __init__ says super().__init__(text) and keeps one field, or none. -/
namespace Sx
open PySem PySem.W PySem.Calls PyProof.Rows Builtin Builtin.ObjectAttr

section
variable {prog : Program} {w : World} {A : Around} {E : Value → Shared → Prop} {R : Result → Shared → Prop} {h : Heap} {g : Array GenState} {d : Drawn} {t : Nat} {os : OsState} {K : Frag} {C e t0 : Addr} {B newId initId : String} {bmB : List Value}

/-- the first store on a made exception -/
theorem set_first {f : Str} {v : Value} {Q : Unit → Shared → Prop} (SF : StoreFacts B bmB "object.__setattr__" "object") (X : K.In h) (he : h.get? e = some (excObj C t0 none .none))
    (sa : findIn K (.ref C) "__setattr__" = some (some (.builtin "object.__setattr__"))) (ov : excOver K C bmB = true) (ht : takerIn K C f = some none) (hh : hasDictIn K C = true)
    (hq : ∀ h' tk dx, (∀ b o, b ≠ e → h.get? b = some o → h'.get? b = some o) → h.objs.size ≤ dx → dx ≠ e → h'.get? e = some (excObj C t0 (some dx) .none) → h'.Ns1 dx (fun y => if y = f then some v else none) → Q () ⟨h', g, d, tk, os⟩) :
    wpAny (model prog w) A (setAttr (.ref e) f v) Q E ⟨h, g, d, t, os⟩ := by
  have I : InstAt h e (excObj C t0 none .none) C none := ⟨he, rfl, rfl, trivial⟩
  refine set_plain X I sa (osa_openX (s := ⟨h, g, d, t + 1, os⟩) SF X I ov ht fun b => ?_)
  obtain ⟨cd, hc, hd'⟩ := any_some hh
  have hcls : Looks (model prog w) h (classData C) cd := looks_clsIn X hc
  have hxs : e ≠ h.objs.size := Nat.ne_of_lt (Heap.lt_size he)
  obtain ⟨nm, bs, mro, ns, qn, hdd, sn, sb, ab, col, del⟩ := cd
  dsimp only at hd'
  subst hd'
  dsimp only
  unfold storeInOwnDict ownDictForStores
  repeat (first | with_reducible refine HandSPX.store_in_new ?_ ?_ | with_reducible refine wpAny_loadPart_at he ?_ | with_reducible refine hcls.at ?_ | wp_step)
  · exact ⟨_, #[], _, (Heap.get?_update_ne _ _ _ _ hxs.symm).trans (Heap.get?_push_at rfl rfl), rfl, fun e he => absurd he (by simp), fun _ => rfl⟩
  · intro h' tk' hn' hs
    have hx₁ : (h.push { cls := .type "dict", data := .dict #[] }).get? e = some (excObj C t0 none .none) := Heap.get?_push_of_some _ he
    refine hq h' tk' h.objs.size (fun b o hb ho => ?_) (Nat.le_refl _) hxs.symm ?_ hn'
    · exact (hs.2 b (Nat.ne_of_lt (Heap.lt_size ho))).trans ((Heap.get?_update_ne _ _ _ _ hb).trans (Heap.get?_push_of_some _ ho))
    · exact (hs.2 e hxs).trans (Heap.get?_update_self _ hx₁ rfl)

/-- the wrapper called: the args are laid anew -/
theorem bound_init {u : Addr} {rest : List Value} {Q : Value → Shared → Prop} (FB : ExcBaseFacts B newId initId bmB) (X : K.In h) (q : excInitIn K C bmB newId = true) (hu : h.get? u = some (kxs_mw initId e)) (he : h.get? e = some (excObj C t0 none .none)) (hz : rest.length ≤ sizeLine)
    (hq : ∀ h' t1, (∀ b o, b ≠ e → h.get? b = some o → h'.get? b = some o) → h'.get? e = some (excObj C t1 none .none) → Q .none ⟨h', g, d, t, os⟩) :
    wpAny (model prog w) A (call (.ref u) rest) Q E ⟨h, g, d, t, os⟩ := by
  obtain ⟨nm, N', qn, bs, bm, hdct, sn, sub, ab, col, dd, k0, k1, k2, k3, k5, hC, hT⟩ := excInit_of X q
  refine wpAny_call (codeAny_of_tree ?_)
  show wpAny _ A.in1 (callAny (.ref u) ⟨rest, []⟩) _ _ _
  simp only [callAny]
  refine wpAny_bind (wpAny_load hu ?_)
  have m1 : (Value.type "method-wrapper" == Value.type "method" || Value.type "method-wrapper" == Value.type "builtin_function_or_method" || Value.type "method-wrapper" == Value.type "method-wrapper") = true := by decide
  simp only [kxs_mw, m1, if_true]
  refine KFB.if_so (by decide) ?_
  refine wpAny_bind (check_bound_init FB.toExcCallFacts hC he rfl ?_)
  refine wpAny_bind (wpAny_pure (wpAny_pure ?_))
  refine ⟨plainId_quiet FB.init.plain _, codeAny_builtin FB.initEntry ?_⟩
  exact exc_init_tree (cls := .ref C) (t0 := t0) (dv := none) (c2 := .none) (c3 := .none) (b4 := .bool false) he hz fun h' k' e' _ => hq h' _ k' e'

/-- what the written part says of such a class: D is C; its __init__'s def at fI, the class's cell at cc, the code object at cda -/
structure SupC (K : Frag) (prog : Program) (C fI cc cda : Addr) (B newId initId : String) (bmB : List Value) (qual : Str) (ar : Str) (scope : Scope) (params : Arguments) : Prop where
  FB : ExcBaseFacts B newId initId bmB
  KF : KxsFacts B initId
  SF : StoreFacts B bmB "object.__setattr__" "object"
  q : excInitIn K C bmB newId = true
  ov : excOver K C bmB = true
  hh : hasDictIn K C = true
  sa : findIn K (.ref C) "__setattr__" = some (some (.builtin "object.__setattr__"))
  iC : findIn K (.ref C) "__init__" = some (some (.ref fI))
  tI : typeIn K (.ref fI) = some (.type "function")
  cell : ∃ cl cld csl, K.lookup cc = some ⟨cl, cld, .cell (some (.ref C)), csl⟩
  code : ∃ ccl cdd vs ccs file tf, K.lookup cda = some ⟨ccl, cdd, .fields vs, ccs⟩ ∧ vs[2]? = some (.str file tf) ∧ ((prog.main.file : Str) == file) = true
  cdI : codeIn K (.ref cda) qual = true
  cls : ∃ cd, clsIn K C = some cd
  self : mroIn K C (.ref C) = some true
  sup : ks_superIn K C C "__init__" = some (some (.builtin initId))
  sB : subIn K (.ref C) (.type B) = some true
  noOp : nsIn K cStatics "thirdparty.any" = some none
  top : (prog.main.scope.names.lookup ("super" : Str)).isSome = false
  kind : scope.kind = .function
  co : scope.isCoroutine = false
  gen : scope.isGenerator = false
  nS : scope.names.lookup ("super" : Str) = some .globalImplicit
  nC : scope.names.lookup ("__class__" : Str) = some .free
  nA : scope.names.lookup ar = some .local
  noCell : ∀ x ∈ scope.names, x.2 ≠ .cell
  head : ((params.posonlyargs ++ params.args).head?.map (·.arg)) = some ar

/-- super().__init__("text") as the first statement of the def that runs -/
theorem super_first {body : List Stmt} {fI cc cda : Addr} {qual ar : Str} {scope : Scope} {params : Arguments} {mg mb : Str → Option Value} {oc kV doc pm ct dV : Value} {an od : Option Addr} {osl : Array (Option Value)} {name : Str} {p0 p1 p2 p3 p4 p5 : Pos} {msg : Str} {k4 : Nat}
    {L : Addr} {m : Str → Option Value} {Q : Flow → Shared → Prop} (T : SupC K prog C fI cc cda B newId initId bmB qual ar scope params)
    (lk : K.lookup fI = some ⟨oc, od, .func (ksFn name qual params body scope dV kV doc pm an (.ref cda) ct cc), osl⟩)
    (X : K.In h) (hg : h.Ns mainGlobals mg) (hms : mg "super" = none) (hb : h.Ns builtinsNs mb) (hbs : mb "super" = some (.type "super"))
    (hn : h.Ns L m) (hv : m ar = some (.ref e)) (he : h.get? e = some (excObj C t0 none .none))
    (hq : ∀ h' tk t1, (∀ b o, b ≠ e → h.get? b = some o → h'.get? b = some o) → h'.get? e = some (excObj C t1 none .none) → Q .next ⟨h', g, d, tk, os⟩)
    (hev : ∃ pl : Sem Bool, PySem.eval (.Call (.Attribute (.Call (.Name "super" p0) [] [] p1) "__init__" p2) [.Constant (.str msg) k4 p3] [] p4) (ksEnv qual scope L fI (.ref cda) cc) = (do
      let ov ← attributeBase (.Call (.Name "super" p0) [] [] p1) "__init__" (ksEnv qual scope L fI (.ref cda) cc) (PySem.eval (.Call (.Name "super" p0) [] [] p1) (ksEnv qual scope L fI (.ref cda) cc))
      standAt p2.atName
      let (f, first) ← holding [ov] (getMethod ov "__init__" pl)
      callWith p4 f first (backTo p4 (starEach [.Constant (.str msg) k4 p3] (ksEnv qual scope L fI (.ref cda) cc))) [])) :
    _root_.PySem.wpAt (model prog w) A (.func body (ksEnv qual scope L fI (.ref cda) cc)) (exec (.Expr (.Call (.Attribute (.Call (.Name "super" p0) [] [] p1) "__init__" p2) [.Constant (.str msg) k4 p3] [] p4) p5) (ksEnv qual scope L fI (.ref cda) cc)) Q E ⟨h, g, d, t, os⟩ := by
  obtain ⟨cl, cld, csl, hcell⟩ := T.cell
  obtain ⟨ccl, cdd, vs, ccs, file, tf, hcode, hvs, hfile⟩ := T.code
  obtain ⟨cd, hcd⟩ := T.cls
  obtain ⟨arg, harg, har⟩ := Option.map_eq_some_iff.mp T.head
  obtain ⟨oD, hD1, hD2⟩ : ∃ oD, h.get? C = some oD ∧ oD.data = .cls cd := by
    unfold clsIn at hcd
    split at hcd
    · rename_i ho
      cases hcd
      exact ⟨_, X _ _ ho, rfl⟩
    · cases hcd
  have I0 : InstAt h e (excObj C t0 none .none) C none := ⟨he, rfl, rfl, trivial⟩
  have neC : e ≠ C := fun z => by
    rw [z, hD1] at he
    cases he
    cases hD2
  have hi : interactive (ksEnv qual scope L fI (.ref cda) cc) = false := by
    show (scope.kind == .module && _) = false
    rw [T.kind]; rfl
  obtain ⟨pl, hev⟩ := hev
  refine ks_wpAt_Expr_any ?_ hi rfl
  refine ks_wpAt_MethodCall (pl := pl) ?_ hev
  refine ks_wpAt_super_base (env := ksEnv qual scope L fI (.ref cda) cc) T.nS T.nC rfl rfl (X _ _ lk) rfl harg rfl (X _ _ hcode) rfl hvs hfile T.top ?_
  refine ks_loadName_global T.kind T.nS (loadGlobal_builtin (env := ksEnv qual scope L fI (.ref cda) cc) hg hms hb hbs ⟨rfl, ?_⟩)
  refine wpAny_loadName_free T.kind T.nC rfl ⟨_, X _ _ hcell, rfl⟩ ?_
  rw [har]
  refine wpAny_loadName_local T.kind T.nA hn hv ?_
  refine ks_wpAny_isType_cls hD1 hD2 ⟨rfl, ?_⟩
  refine ks_wpAny_call_super hD1 hD2 he rfl (fun c z => by cases z) (looks_mroIn X T.self) (fun h2 e2 k2 => ?_)
  have X2 : K.In h2 := X.keeps k2
  have hsup := T.sup
  unfold ks_superIn at hsup
  rw [hcd] at hsup
  have he2 := k2 _ _ he
  have I2 : InstAt h2 e (excObj C t0 none .none) C none := ⟨he2, rfl, rfl, trivial⟩
  have hI2 : Looks (model prog w) h2 (isInstance (.ref e) (.type B)) true := I2.type.andThen (looks_subIn X2 T.sB)
  refine kxs_getMethod T.KF e2 (looks_opaque X2 T.noOp) (l₀ := cd.mro) (fun A Q E s k z => wpAny_bind ((looks_clsIn X2 hcd) A _ E s k (wpAny_pure z))) rfl X2 hsup hI2 neC (by decide) ?_
  have hu : (h2.push (kxs_mw initId e)).get? h2.objs.size = some (kxs_mw initId e) := Heap.get?_push_size _ rfl
  have k3 : ∀ b o, h2.get? b = some o → (h2.push (kxs_mw initId e)).get? b = some o := fun b o z => Heap.get?_push_of_some _ z
  show wpAny _ _ (callWith p4 (.ref h2.objs.size) [] (backTo p4 (starEach [.Constant (.str msg) k4 p3] _)) []) _ _ _
  refine kxs_callWith (i := initId) (x := e) rfl ?_
  refine evalArgs_plain (rest := []) (Calls.spliced_cons (@Calls.Constant_str _ _ _ _ _ msg k4 p3 _ (Calls.spliced_nil ⟨hu, ?_⟩)))
  refine bound_init T.FB (X2.keeps k3) T.q hu (k3 _ _ he2) (by show 1 ≤ sizeLine; decide) fun h' t1 k' e' => ?_
  exact hq h' _ t1 (fun b o nb z => k' b o nb (k3 _ _ (k2 _ _ z))) e'

/-- the first name's value -/
theorem lookup_two {a b : Str} {u v : Value} (n : ¬ a = b) : ([(a, u), (b, v)] : List (Str × Value)).reverse.lookup a = some u ∧ ([(a, u), (b, v)] : List (Str × Value)).reverse.lookup b = some v := by
  have h1 : (a == b) = false := by simpa using n
  constructor
  · simp [List.lookup, h1]
  · simp [List.lookup]

/-- __init__ of such a class with one field -/
theorem init_field {fI cc cda : Addr} {qual : Str} {scope : Scope} {params : Arguments} {mg mb : Str → Option Value} {oc kV doc pm ct dV : Value} {an od : Option Addr} {osl : Array (Option Value)} {name f p : Str} {p0 p1 p2 p3 p4 p5 p6 p7 p8 p9 : Pos} {msg : Str} {k4 : Nat}
    {v : Value} {args : Args} (T : SupC K prog C fI cc cda B newId initId bmB qual "self" scope params) (np : ¬ ("self" : Str) = p) (hpl : scope.names.lookup p = some .local) (hf : takerIn K C f = some none)
    (lk : K.lookup fI = some ⟨oc, od, .func (ksFn name qual params [.Expr (.Call (.Attribute (.Call (.Name "super" p0) [] [] p1) "__init__" p2) [.Constant (.str msg) k4 p3] [] p4) p5, .Assign [.Attribute (.Name "self" p6) f p7] (.Name p p8) p9] scope dV kV doc pm an (.ref cda) ct cc), osl⟩)
    {h0 : Heap} (X0 : K.In h0) (k0 : ∀ b o, h0.get? b = some o → h.get? b = some o) (h0e : h0.get? e = none) (hl : h.NoLimit) (hg : h.Ns mainGlobals mg) (hms : mg "super" = none) (hb : h.Ns builtinsNs mb) (hbs : mb "super" = some (.type "super"))
    (he : h.get? e = some (excObj C t0 none .none)) (hr : A.depth < recursionLimit)
    (hbind : BindsTo ⟨h, g, d, t, os⟩ (ksFn name qual params [.Expr (.Call (.Attribute (.Call (.Name "super" p0) [] [] p1) "__init__" p2) [.Constant (.str msg) k4 p3] [] p4) p5, .Assign [.Attribute (.Name "self" p6) f p7] (.Name p p8) p9] scope dV kV doc pm an (.ref cda) ct cc) args [("self", .ref e), (p, v)])
    (hev : ∀ L, ∃ pl : Sem Bool, PySem.eval (.Call (.Attribute (.Call (.Name "super" p0) [] [] p1) "__init__" p2) [.Constant (.str msg) k4 p3] [] p4) (ksEnv qual scope L fI (.ref cda) cc) = (do
      let ov ← attributeBase (.Call (.Name "super" p0) [] [] p1) "__init__" (ksEnv qual scope L fI (.ref cda) cc) (PySem.eval (.Call (.Name "super" p0) [] [] p1) (ksEnv qual scope L fI (.ref cda) cc))
      standAt p2.atName
      let (f, first) ← holding [ov] (getMethod ov "__init__" pl)
      callWith p4 f first (backTo p4 (starEach [.Constant (.str msg) k4 p3] (ksEnv qual scope L fI (.ref cda) cc))) []))
    (hdp : (p == ("__debug__" : Str)) = false) (hcp : (p == ("__classdict__" : Str)) = false)
    (hq : ∀ h' tk dx t1, (∀ b o, b ≠ e → h.get? b = some o → h'.get? b = some o) → h.get? dx = none → dx ≠ e → h'.get? e = some (excObj C t1 (some dx) .none) → h'.Ns1 dx (fun y => if y = f then some v else none) → R (.ok (.ret .none)) ⟨h', g, d, tk, os⟩) :
    codeAny (model prog w) A (.call (.ref fI) args) R ⟨h, g, d, t, os⟩ := by
  have X : K.In h := X0.keeps k0
  refine ks_codeAny_call_defAt hr (X _ _ lk) rfl hl (codeRec_of X T.cdI) rfl hbind T.noCell (fun y hy => ?_) (fun h1 hn k1 => ?_) T.co T.gen T.kind
  · rcases List.mem_cons.mp hy with rfl | hy
    · exact T.nA
    · rw [List.mem_singleton.mp hy]; exact hpl
  refine ks_wpAt_execs_cons ?_
  have nL : h.objs.size ≠ e := Nat.ne_of_gt (Heap.lt_size he)
  refine super_first T lk (X.keeps k1) (hg.keeps k1) hms (hb.keeps k1) hbs hn (lookup_two np).1 (k1 _ _ he) (fun h2 tk t1 k2 e2 => ?_) (hev _)
  have k12 : ∀ b o, b ≠ e → h.get? b = some o → h2.get? b = some o := fun b o nb z => k2 b o nb (k1 b o z)
  have X2 : K.In h2 := fun b o z => k12 b o (fun y => by
    have z2 := X0 b o z
    rw [y, h0e] at z2
    cases z2) (X b o z)
  have hn2 : h2.Ns h.objs.size (fun x => ([("self", Value.ref e), (p, v)] : List (Str × Value)).reverse.lookup x) := by
    obtain ⟨o, es, ep, ho, hr⟩ := hn
    exact ⟨o, es, ep, k2 _ _ nL ho, hr⟩
  dsimp only
  refine ks_wpAt_execs_cons ?_
  refine ks_wpAt_Assign_Attr (wpAt_of_wpAny ?_) rfl
  refine wpAny_Name (wpAny_loadName_local T.kind hpl hn2 (lookup_two np).2 ?_) hdp
  refine wpAny_Name (wpAny_loadName_local T.kind T.nA hn2 (lookup_two np).1 ?_) (by decide)
  refine set_first T.SF X2 e2 T.sa T.ov hf T.hh fun h3 tk3 dx k3 d1 d2 e3 n3 => ?_
  refine wpAt_of_wpAny (wpAny_pure ?_)
  refine hq h3 tk3 dx t1 (fun b o nb z => k3 b o nb (k12 b o nb z)) ?_ d2 e3 n3
  cases z : h.get? dx with
  | none => rfl
  | some o => exact absurd (Nat.lt_of_lt_of_le (Heap.lt_size (k12 _ _ d2 z)) d1) (Nat.lt_irrefl _)

/-- __init__ of such a class without a field -/
theorem init_none {fI cc cda : Addr} {qual : Str} {scope : Scope} {params : Arguments} {mg mb : Str → Option Value} {oc kV doc pm ct dV : Value} {an od : Option Addr} {osl : Array (Option Value)} {name : Str} {p0 p1 p2 p3 p4 p5 : Pos} {msg : Str} {k4 : Nat}
    {args : Args} (T : SupC K prog C fI cc cda B newId initId bmB qual "self" scope params)
    (lk : K.lookup fI = some ⟨oc, od, .func (ksFn name qual params [.Expr (.Call (.Attribute (.Call (.Name "super" p0) [] [] p1) "__init__" p2) [.Constant (.str msg) k4 p3] [] p4) p5] scope dV kV doc pm an (.ref cda) ct cc), osl⟩)
    {h0 : Heap} (X0 : K.In h0) (k0 : ∀ b o, h0.get? b = some o → h.get? b = some o) (hl : h.NoLimit) (hg : h.Ns mainGlobals mg) (hms : mg "super" = none) (hb : h.Ns builtinsNs mb) (hbs : mb "super" = some (.type "super"))
    (he : h.get? e = some (excObj C t0 none .none)) (hr : A.depth < recursionLimit)
    (hbind : BindsTo ⟨h, g, d, t, os⟩ (ksFn name qual params [.Expr (.Call (.Attribute (.Call (.Name "super" p0) [] [] p1) "__init__" p2) [.Constant (.str msg) k4 p3] [] p4) p5] scope dV kV doc pm an (.ref cda) ct cc) args [("self", .ref e)])
    (hev : ∀ L, ∃ pl : Sem Bool, PySem.eval (.Call (.Attribute (.Call (.Name "super" p0) [] [] p1) "__init__" p2) [.Constant (.str msg) k4 p3] [] p4) (ksEnv qual scope L fI (.ref cda) cc) = (do
      let ov ← attributeBase (.Call (.Name "super" p0) [] [] p1) "__init__" (ksEnv qual scope L fI (.ref cda) cc) (PySem.eval (.Call (.Name "super" p0) [] [] p1) (ksEnv qual scope L fI (.ref cda) cc))
      standAt p2.atName
      let (f, first) ← holding [ov] (getMethod ov "__init__" pl)
      callWith p4 f first (backTo p4 (starEach [.Constant (.str msg) k4 p3] (ksEnv qual scope L fI (.ref cda) cc))) []))
    (hq : ∀ h' tk t1, (∀ b o, b ≠ e → h.get? b = some o → h'.get? b = some o) → h'.get? e = some (excObj C t1 none .none) → R (.ok (.ret .none)) ⟨h', g, d, tk, os⟩) :
    codeAny (model prog w) A (.call (.ref fI) args) R ⟨h, g, d, t, os⟩ := by
  have X : K.In h := X0.keeps k0
  refine ks_codeAny_call_defAt hr (X _ _ lk) rfl hl (codeRec_of X T.cdI) rfl hbind T.noCell (fun y hy => ?_) (fun h1 hn k1 => ?_) T.co T.gen T.kind
  · rw [List.mem_singleton.mp hy]; exact T.nA
  refine ks_wpAt_execs_cons ?_
  refine super_first T lk (X.keeps k1) (hg.keeps k1) hms (hb.keeps k1) hbs hn (by simp [List.lookup]) (k1 _ _ he) (fun h2 tk t1 k2 e2 => ?_) (hev _)
  dsimp only
  refine wpAt_of_wpAny (wpAny_pure ?_)
  exact hq h2 tk t1 (fun b o nb z => k2 b o nb (k1 b o z)) e2

/-- C(v): a new exception object with its dict -/
theorem make_field {fI cc cda : Addr} {qual : Str} {scope : Scope} {params : Arguments} {mg mb : Str → Option Value} {oc kV doc pm ct dV : Value} {an od : Option Addr} {osl : Array (Option Value)} {name f p : Str} {p0 p1 p2 p3 p4 p5 p6 p7 p8 p9 : Pos} {msg : Str} {k4 : Nat}
    {v : Value} (T : SupC K prog C fI cc cda B newId initId bmB qual "self" scope params) (np : ¬ ("self" : Str) = p) (hpl : scope.names.lookup p = some .local) (hf : takerIn K C f = some none)
    (lk : K.lookup fI = some ⟨oc, od, .func (ksFn name qual params [.Expr (.Call (.Attribute (.Call (.Name "super" p0) [] [] p1) "__init__" p2) [.Constant (.str msg) k4 p3] [] p4) p5, .Assign [.Attribute (.Name "self" p6) f p7] (.Name p p8) p9] scope dV kV doc pm an (.ref cda) ct cc), osl⟩)
    (X : K.In h) (hl : h.NoLimit) (hg : h.Ns mainGlobals mg) (hms : mg "super" = none) (hb : h.Ns builtinsNs mb) (hbs : mb "super" = some (.type "super")) (hr : A.depth + 1 < recursionLimit)
    (hbind : ∀ (s : Shared) (x y : Value), BindsTo s (ksFn name qual params [.Expr (.Call (.Attribute (.Call (.Name "super" p0) [] [] p1) "__init__" p2) [.Constant (.str msg) k4 p3] [] p4) p5, .Assign [.Attribute (.Name "self" p6) f p7] (.Name p p8) p9] scope dV kV doc pm an (.ref cda) ct cc) ⟨[x, y], []⟩ [("self", x), (p, y)])
    (hev : ∀ L, ∃ pl : Sem Bool, PySem.eval (.Call (.Attribute (.Call (.Name "super" p0) [] [] p1) "__init__" p2) [.Constant (.str msg) k4 p3] [] p4) (ksEnv qual scope L fI (.ref cda) cc) = (do
      let ov ← attributeBase (.Call (.Name "super" p0) [] [] p1) "__init__" (ksEnv qual scope L fI (.ref cda) cc) (PySem.eval (.Call (.Name "super" p0) [] [] p1) (ksEnv qual scope L fI (.ref cda) cc))
      standAt p2.atName
      let (f, first) ← holding [ov] (getMethod ov "__init__" pl)
      callWith p4 f first (backTo p4 (starEach [.Constant (.str msg) k4 p3] (ksEnv qual scope L fI (.ref cda) cc))) []))
    (hdp : (p == ("__debug__" : Str)) = false) (hcp : (p == ("__classdict__" : Str)) = false)
    (hq : ∀ h' tk e dx t1, (∀ b o, h.get? b = some o → h'.get? b = some o) → h.objs.size ≤ e → h.get? dx = none → dx ≠ e → h'.get? e = some (excObj C t1 (some dx) .none) → h'.Ns1 dx (fun y => if y = f then some v else none) → R (.ok (.ret (.ref e))) ⟨h', g, d, tk, os⟩) :
    codeAny (model prog w) A (.call (.ref C) ⟨[v], []⟩) R ⟨h, g, d, t, os⟩ := by
  obtain ⟨nm, N', qn, bs, bm, hdct, sn, sub, ab, col, dd, k0, k1, k2, k3, k5, hC, hT⟩ := excInit_of X T.q
  have kk : ∀ b o, h.get? b = some o → ((h.push (kdv_tup [v])).push (HandSPX.excO C h.objs.size)).get? b = some o := fun b o z => Heap.get?_push_of_some _ (Heap.get?_push_of_some _ z)
  have hget : ((h.push (kdv_tup [v])).push (HandSPX.excO C h.objs.size)).get? (h.objs.size + 1) = some (HandSPX.excO C h.objs.size) := by heap_get
  have n1 : h.get? (h.objs.size + 1) = none := Heap.get?_none_of_le (Nat.le_succ _)
  obtain ⟨oF, hoF, hcF⟩ : ∃ o, h.get? fI = some o ∧ o.cls = .type "function" := by
    obtain ⟨o, ho, hc⟩ := Option.map_eq_some_iff.mp T.tI
    exact ⟨o, X _ _ ho, hc⟩
  refine HandSPX.call_own T.FB hT hC (looks_findIn X T.iC) (fun self => exc_bind hoF hcF self) (by show 1 ≤ sizeLine; decide) ?_
  refine init_field (e := h.objs.size + 1) T np hpl hf lk X kk n1 (hl.keeps kk) (hg.keeps kk) hms (hb.keeps kk) hbs hget (by rw [L2.make_depth]; exact hr) (hbind _ _ _) hev hdp hcp fun h' tk dx t1 k' n' d' e' z' => ?_
  refine ⟨rfl, hq h' tk _ dx t1 (fun b o z => k' b o (Nat.ne_of_lt (Nat.lt_succ_of_lt (Heap.lt_size z))) (kk b o z)) (Nat.le_succ _) ?_ d' e' z'⟩
  cases z : h.get? dx with
  | none => rfl
  | some o =>
    rw [kk _ _ z] at n'
    cases n'

/-- C(): a new exception object without a dict -/
theorem make_none {fI cc cda : Addr} {qual : Str} {scope : Scope} {params : Arguments} {mg mb : Str → Option Value} {oc kV doc pm ct dV : Value} {an od : Option Addr} {osl : Array (Option Value)} {name : Str} {p0 p1 p2 p3 p4 p5 : Pos} {msg : Str} {k4 : Nat}
    (T : SupC K prog C fI cc cda B newId initId bmB qual "self" scope params)
    (lk : K.lookup fI = some ⟨oc, od, .func (ksFn name qual params [.Expr (.Call (.Attribute (.Call (.Name "super" p0) [] [] p1) "__init__" p2) [.Constant (.str msg) k4 p3] [] p4) p5] scope dV kV doc pm an (.ref cda) ct cc), osl⟩)
    (X : K.In h) (hl : h.NoLimit) (hg : h.Ns mainGlobals mg) (hms : mg "super" = none) (hb : h.Ns builtinsNs mb) (hbs : mb "super" = some (.type "super")) (hr : A.depth + 1 < recursionLimit)
    (hbind : ∀ (s : Shared) (x : Value), BindsTo s (ksFn name qual params [.Expr (.Call (.Attribute (.Call (.Name "super" p0) [] [] p1) "__init__" p2) [.Constant (.str msg) k4 p3] [] p4) p5] scope dV kV doc pm an (.ref cda) ct cc) ⟨[x], []⟩ [("self", x)])
    (hev : ∀ L, ∃ pl : Sem Bool, PySem.eval (.Call (.Attribute (.Call (.Name "super" p0) [] [] p1) "__init__" p2) [.Constant (.str msg) k4 p3] [] p4) (ksEnv qual scope L fI (.ref cda) cc) = (do
      let ov ← attributeBase (.Call (.Name "super" p0) [] [] p1) "__init__" (ksEnv qual scope L fI (.ref cda) cc) (PySem.eval (.Call (.Name "super" p0) [] [] p1) (ksEnv qual scope L fI (.ref cda) cc))
      standAt p2.atName
      let (f, first) ← holding [ov] (getMethod ov "__init__" pl)
      callWith p4 f first (backTo p4 (starEach [.Constant (.str msg) k4 p3] (ksEnv qual scope L fI (.ref cda) cc))) []))
    (hq : ∀ h' tk e t1, (∀ b o, h.get? b = some o → h'.get? b = some o) → h.objs.size ≤ e → h'.get? e = some (excObj C t1 none .none) → R (.ok (.ret (.ref e))) ⟨h', g, d, tk, os⟩) :
    codeAny (model prog w) A (.call (.ref C) ⟨[], []⟩) R ⟨h, g, d, t, os⟩ := by
  obtain ⟨nm, N', qn, bs, bm, hdct, sn, sub, ab, col, dd, k0, k1, k2, k3, k5, hC, hT⟩ := excInit_of X T.q
  have kk : ∀ b o, h.get? b = some o → ((h.push (kdv_tup [])).push (HandSPX.excO C h.objs.size)).get? b = some o := fun b o z => Heap.get?_push_of_some _ (Heap.get?_push_of_some _ z)
  have hget : ((h.push (kdv_tup [])).push (HandSPX.excO C h.objs.size)).get? (h.objs.size + 1) = some (HandSPX.excO C h.objs.size) := by heap_get
  obtain ⟨oF, hoF, hcF⟩ : ∃ o, h.get? fI = some o ∧ o.cls = .type "function" := by
    obtain ⟨o, ho, hc⟩ := Option.map_eq_some_iff.mp T.tI
    exact ⟨o, X _ _ ho, hc⟩
  refine HandSPX.call_own T.FB hT hC (looks_findIn X T.iC) (fun self => exc_bind hoF hcF self) (by show 0 ≤ sizeLine; decide) ?_
  refine init_none (e := h.objs.size + 1) T lk X kk (hl.keeps kk) (hg.keeps kk) hms (hb.keeps kk) hbs hget (by rw [L2.make_depth]; exact hr) (hbind _ _) hev fun h' tk t1 k' e' => ?_
  exact ⟨rfl, hq h' tk _ t1 (fun b o z => k' b o (Nat.ne_of_lt (Nat.lt_succ_of_lt (Heap.lt_size z))) (kk b o z)) (Nat.le_succ _) e'⟩
end
end Sx

/-! The same called with the field by its name. -/
namespace Sx
open PySem PySem.Calls Builtin Builtin.ObjectAttr HandSPX
section
variable {M : Model} {A : Around} {E : Value → Shared → Prop} {h : Heap} {g : Array GenState} {d : Drawn} {t : Nat} {os : OsState}
variable {nm q : Str} {C N : Addr} {bs bm bmB : List Value} {hdct : Bool} {sn : List Str} {sub : List Value} {ab : Bool} {col : Option Bool} {dd : Option Addr} {k0 k1 k2 k3 k5 : Option Value} {B newId initId : String}
theorem kw_check (FB : ExcBaseFacts B newId initId bmB) (hT : ∀ X : String, bm.contains (.type X) = bmB.contains (.type X)) {p : Str} {v : Value} {Q : Unit → Shared → Prop}
    (hC : h.get? C = some (excClassObj nm q C N bs bm hdct sn sub ab col dd k0 k1 k2 k3 k5 newId)) (hq : Q () ⟨h, g, d, t, os⟩) : wpAny M A (checkBuiltinCall newId ⟨[.ref C], [(p, v)]⟩) Q E ⟨h, g, d, t, os⟩ := by
  have c1 : (Value.ref C :: bm).contains (.type B) = true := by rw [List.contains_cons, hT, FB.hasB, Bool.or_true]
  have c2 := FB.noStar
  simp only [checkBuiltinCall, FB.newKind, FB.newSplit, FB.newRow]
  repeat (first | refine wpAny_loadPart_at hC ?_ | (refine wpAny_isSubtype_exc hC ?_; rw [c1]) | refine wpAny_staticBase_exc hC ?_ | refine wpAny_madeBy_exc hC ?_ | simp only [bne_self_eq_false, Bool.false_eq_true, if_false] | wp_step)
  exact hq
end
section
variable {prog : Program} {w : World} {A : Around} {E : Value → Shared → Prop} {R : Result → Shared → Prop} {h : Heap} {g : Array GenState} {d : Drawn} {t : Nat} {os : OsState}
variable {nm q : Str} {C N : Addr} {bs bm bmB : List Value} {hdct : Bool} {sn : List Str} {sub : List Value} {ab : Bool} {col : Option Bool} {dd : Option Addr} {k0 k1 k2 k3 k5 : Option Value} {B newId initId : String}
theorem kw_new (FB : ExcBaseFacts B newId initId bmB) (hT : ∀ X : String, bm.contains (.type X) = bmB.contains (.type X)) {p : Str} {v : Value}
    (hC : h.get? C = some (excClassObj nm q C N bs bm hdct sn sub ab col dd k0 k1 k2 k3 k5 newId))
    (hq : R (.ok (.ret (.ref (h.objs.size + 1)))) ⟨(h.push { cls := .type "tuple", data := .seq ([] : List Value).toArray }).push (excO C h.objs.size), g, d, t, os⟩) :
    codeAny (model prog w) A (.builtin newId ⟨[.ref C], [(p, v)]⟩) R ⟨h, g, d, t, os⟩ := by
  have c0 := FB.ends
  have c1 : (Value.ref C :: bm).contains (.type B) = true := by rw [List.contains_cons, hT, FB.hasB, Bool.or_true]
  have c2 : (Value.ref C :: bm).contains (.type "AttributeError") = false := by rw [List.contains_cons, hT, FB.noAttr]; rfl
  have c3 : (Value.ref C :: bm).contains (.type "NameError") = false := by rw [List.contains_cons, hT, FB.noName]; rfl
  refine codeAny_builtinAt FB.entry ?_
  unfold Builtin.«BaseException.__new__»
  refine wpAt_bind ?_
  show wpAt _ _ _ (stack >>= _) _ _ _
  refine wpAt_bind (wpAt_stack fun p below => wpAt_of_wpAny ?_)
  wp_walk
  refine wpAt_of_wpAny ?_
  rw [FB.owner]
  repeat (first | with_reducible refine wpAny_madeHere_exc FB.canon hC ?_ | with_reducible refine wpAny_loadPart_at hC ?_ | (with_reducible refine wpAny_isSubtype_exc hC ?_; first | rw [c1] | rw [c2] | rw [c3]) | wp_step)
  show R _ _
  rw [Heap.size_push]
  exact hq
theorem kw_type (FB : ExcBaseFacts B newId initId bmB) (hT : ∀ X : String, bm.contains (.type X) = bmB.contains (.type X)) {p : Str} {v : Value} {fI : Addr} {Q : Fin → Shared → Prop}
    (hC : h.get? C = some (excClassObj nm q C N bs bm hdct sn sub ab col dd k0 k1 k2 k3 k5 newId))
    (hi : W.Looks (model prog w) h (typeLookup (.ref C) "__init__") (some (.ref fI))) (hb : ∀ self, W.Looks (model prog w) h (bindSpecial (.ref fI) self) (.ref fI, [self]))
    (hq : codeAny (model prog w) A (.call (.ref fI) ⟨[.ref (h.objs.size + 1)], [(p, v)]⟩)
      (fun r s' => match r with | .ok (.ret v) => v = .none ∧ Q (.done (.ret (.ref (h.objs.size + 1)))) s' | .ok _ => False | .error e => E e s')
      ⟨(h.push (W.kdv_tup [])).push (excO C h.objs.size), g, d, t, os⟩) :
    wpAny (model prog w) A (Builtin.«type.__call__» ⟨[.ref C], [(p, v)]⟩) Q E ⟨h, g, d, t, os⟩ := by
  repeat (first | with_reducible refine wpAny_loadPart_at hC ?_ | with_reducible refine wpAny_madeBy_exc hC ?_ | wp_step)
  refine codeAny_call_builtin_code (Code.quiet_builtin _ FB.quiet) (kw_check FB hT hC ?_)
  refine kw_new FB hT hC ?_
  show wpAny _ _ _ _ _ _
  have k : ∀ b o, h.get? b = some o → ((h.push (W.kdv_tup [])).push (excO C h.objs.size)).get? b = some o := fun b o e => Heap.get?_push_of_some _ (Heap.get?_push_of_some _ e)
  have hC' := k _ _ hC
  have hget : ((h.push (W.kdv_tup [])).push (excO C h.objs.size)).get? (h.objs.size + 1) = some (excO C h.objs.size) := by heap_get
  have cc : (Value.ref C :: bm).contains (.ref C) = true := by simp
  have i1 := hi.keeps k
  have b1 := (hb (.ref (h.objs.size + 1))).keeps k
  unfold isInstance
  repeat (first | with_reducible refine wpAny_loadPart_at hget ?_ | (with_reducible refine wpAny_isSubtype_exc hC' ?_; rw [cc]) | wp_step)
  show wpAny _ _ (typeLookup (.ref C) _) _ _ _
  refine i1.at ?_
  refine wpAny_holding (wpAny_bind (b1.at ?_))
  refine wpAny_bind (wpAny_call (codeAny_mono hq fun r s' z => ?_))
  rcases r with x | (u | _ | _ | _) <;> first | exact z | exact False.elim z | skip
  obtain ⟨rfl, z⟩ := z
  first | exact wpAny_pure (wpAny_pure z) | (wp_walk; exact z)
theorem kw_call (FB : ExcBaseFacts B newId initId bmB) (hT : ∀ X : String, bm.contains (.type X) = bmB.contains (.type X)) {p : Str} {v : Value} {fI : Addr}
    (hC : h.get? C = some (excClassObj nm q C N bs bm hdct sn sub ab col dd k0 k1 k2 k3 k5 newId))
    (hi : W.Looks (model prog w) h (typeLookup (.ref C) "__init__") (some (.ref fI))) (hb : ∀ self, W.Looks (model prog w) h (bindSpecial (.ref fI) self) (.ref fI, [self]))
    (hq : codeAny (model prog w) (A.under (.builtin "type.__call__" ⟨[.ref C], [(p, v)]⟩)) (.call (.ref fI) ⟨[.ref (h.objs.size + 1)], [(p, v)]⟩) (W.InitBack (h.objs.size + 1) R)
      ⟨(h.push (W.kdv_tup [])).push (excO C h.objs.size), g, d, t, os⟩) :
    codeAny (model prog w) A (.call (.ref C) ⟨[], [(p, v)]⟩) R ⟨h, g, d, t, os⟩ := by
  have f1 := tc_lookup
  have f2 := tc_bind (.ref C)
  have hTy : (⟨h, g, d, t, os⟩ : Shared).TypeIs (.ref C) "type" := ⟨_, hC, rfl⟩
  refine codeAny_of_tree ?_
  show wpAny _ _ (callAny (.ref C) _) _ _ _
  repeat (any_goals (first | assumption | with_reducible refine wpAny_loadPart_at hC ?_ | wp_step))
  refine ⟨rfl, ?_⟩
  refine codeAny_call_builtin_at (Code.quiet_builtin _ (by decide +kernel)) entry_typeCall (wpAny_check_type_call_sub hC (kw_type FB hT hC hi hb ?_))
  refine codeAny_mono hq fun r s' z => ?_
  rcases r with x | (u | _ | _ | _) <;> first | exact z | exact False.elim z
end
end Sx

/-! Such exceptions over the hand layer: made as values, raised. -/
namespace Sx
open PySem PySem.Spec PyProof.Rows L2
/-- at e: an exception object of the class at C, its own dict (none | at d) -/
def exV (e C : Addr) (d : Option Addr) : HO := .ext fun h => ∃ (oe : Obj) (vs : Array Value), h.get? e = some oe ∧ Zc (.ref C) d oe ∧ oe.data = .fields vs
theorem exV_ok {P : Program} {w : World} {H : Hp} {h : Heap} {e C : Addr} {d : Option Addr} {oe : Obj} {vs : Array Value} (e1 : h.get? e = some oe) (e2 : Zc (.ref C) d oe) (e3 : oe.data = .fields vs) : ObjOk P w H h e (exV e C d) :=
  ⟨⟨oe, vs, e1, e2, e3⟩, ⟨oe, e1⟩, fun _ _ ⟨o, v, z, r⟩ k => ⟨o, v, k o z, r⟩⟩
theorem exV_ne_tup {e C : Addr} {d : Option Addr} {xs : List V} : exV e C d ≠ .tup xs := fun z => by cases z
theorem exV_ne_lst {e C : Addr} {d : Option Addr} {xs : List V} : exV e C d ≠ .lst xs := fun z => by cases z
/-- calling the class at C with its one value makes a new exception that keeps it as its field f -/
def MkF (P : Program) (K : PySem.W.Frag) (mg : Str → Option Value) (C : Addr) (f : Str) (arg : Value → Args) : Prop :=
  ∀ (w : World) (A : Around) (h : Heap) (g : Array GenState) (d : Drawn) (t : Nat) (os : OsState) (v : Value) (mb : Str → Option Value) (R : Result → Shared → Prop), A.depth + 1 < recursionLimit → K.In h → h.NoLimit → h.Ns mainGlobals mg → h.Ns builtinsNs mb → mb "super" = some (.type "super") →
    (∀ h' tk e dx t1, (∀ b o, h.get? b = some o → h'.get? b = some o) → h.objs.size ≤ e → h.get? dx = none → dx ≠ e → h'.get? e = some (PySem.W.excObj C t1 (some dx) .none) → h'.Ns1 dx (fun y => if y = f then some v else none) → R (.ok (.ret (.ref e))) ⟨h', g, d, tk, os⟩) →
    codeAny (model P w) A (.call (.ref C) (arg v)) R ⟨h, g, d, t, os⟩
/-- .. without a value -/
def MkN (P : Program) (K : PySem.W.Frag) (mg : Str → Option Value) (C : Addr) : Prop :=
  ∀ (w : World) (A : Around) (h : Heap) (g : Array GenState) (d : Drawn) (t : Nat) (os : OsState) (mb : Str → Option Value) (R : Result → Shared → Prop), A.depth + 1 < recursionLimit → K.In h → h.NoLimit → h.Ns mainGlobals mg → h.Ns builtinsNs mb → mb "super" = some (.type "super") →
    (∀ h' tk e t1, (∀ b o, h.get? b = some o → h'.get? b = some o) → h.objs.size ≤ e → h'.get? e = some (PySem.W.excObj C t1 none .none) → R (.ok (.ret (.ref e))) ⟨h', g, d, tk, os⟩) →
    codeAny (model P w) A (.call (.ref C) ⟨[], []⟩) R ⟨h, g, d, t, os⟩
section
variable {X : Cx} {pins : List (Addr × Obj)} {σ : L2.St} {H : Hp} {s : Shared}
/-- a new dict of an exception at d (and the exception at e, if it is to be tracked) -/
theorem inv_new2 {h' : Heap} {t' : Nat} {e d C : Addr} {f : Str} {x : V} {v : Value} {oe : Obj} {vs : Array Value} (I : Inv X pins σ H s) (k : ∀ b o, s.heap.get? b = some o → h'.get? b = some o) (ne : s.heap.get? e = none) (nd : s.heap.get? d = none) (nn : d ≠ e)
    (he : h'.get? e = some oe) (hz : Zc (.ref C) (some d) oe) (hv : oe.data = .fields vs) (hn : h'.Ns1 d (fun y => if y = f then some v else none)) (r : RelV x v) :
    Inv X pins σ (upd (upd H d (.xd [(f, x)])) e (exV e C (some d))) { s with heap := h', toks := t' } := by
  have He : H e = none := I.hok.gone ne
  have Hd : H d = none := I.hok.gone nd
  have a1 : ∀ {b : Addr} {o : HO}, H b = some o → b ≠ e := fun z => ne_of_none z He
  have a2 : ∀ {b : Addr} {o : HO}, H b = some o → b ≠ d := fun z => ne_of_none z Hd
  have b1 : ∀ {b : Addr} {o : Obj}, s.heap.get? b = some o → b ≠ e := fun z y => by rw [y, ne] at z; cases z
  have b2 : ∀ {b : Addr} {o : Obj}, s.heap.get? b = some o → b ≠ d := fun z y => by rw [y, nd] at z; cases z
  refine I.un ⟨fun b o q _ _ _ => k b o q, fun b o q _ _ _ => ⟨o.slots, k b o q⟩, fun b o q n _ => by rw [upd_ne (b1 q), upd_ne (b2 q)]; exact n, fun b o q _ => ⟨o, k b o q⟩, fun b xs q => by rw [upd_ne (a1 q), upd_ne (a2 q)]; exact q,
    fun b o u q => by rw [upd_ne (a1 q), upd_ne (a2 q)]; exact q, fun b ps q => ⟨#[], by rw [upd_ne (a1 q), upd_ne (a2 q), q]; simp⟩⟩ fun b o q => ?_
  by_cases hb : b = e
  · subst hb
    rw [upd_same] at q
    cases q
    exact exV_ok he hz hv
  · rw [upd_ne hb] at q
    by_cases hd : b = d
    · subst hd
      rw [upd_same] at q
      cases q
      refine ⟨_, hn, fun y => ?_⟩
      rw [lookup_put]
      by_cases hy : y = f
      · rw [if_pos hy, if_pos hy]; exact r
      · rw [if_neg hy, if_neg hy]; exact True.intro
    · rw [upd_ne hd] at q
      exact (I.hok b o q).stay (fun c u _ z => k c u z) (fun c z => by rw [upd_ne (a1 z), upd_ne (a2 z)]; exact z) fun c xs z => by rw [upd_ne (a1 z), upd_ne (a2 z)]; exact z
theorem inv_new1 {h' : Heap} {t' : Nat} {e C : Addr} {oe : Obj} {vs : Array Value} (I : Inv X pins σ H s) (k : ∀ b o, s.heap.get? b = some o → h'.get? b = some o) (ne : s.heap.get? e = none)
    (he : h'.get? e = some oe) (hz : Zc (.ref C) none oe) (hv : oe.data = .fields vs) : Inv X pins σ (upd H e (exV e C none)) { s with heap := h', toks := t' } :=
  I.laidN k ne (I.hok.gone ne) (exV_ok he hz hv)
end
/-! ### rules -/
/-- C(e) as a value -/
def tEx1 (C : Addr) (f : Str) (ta : TE) : TE := fun σ H Q => ta σ H fun v H1 => ∀ e d, H1 e = none → H1 d = none → d ≠ e → Q (.ref e) (upd (upd H1 d (.xd [(f, v)])) e (exV e C (some d)))
def tEx0 (C : Addr) : TE := fun σ H Q => ∀ e, H e = none → Q (.ref e) (upd H e (exV e C none))
def tExK (C : Addr) (f : Str) (tk : TA) : TE := fun σ H Q => tk σ H fun vs H1 => ∃ v, vs = [v] ∧ ∀ e d, H1 e = none → H1 d = none → d ≠ e → Q (.ref e) (upd (upd H1 d (.xd [(f, v)])) e (exV e C (some d)))
section
variable {X : Cx} {C : Addr} {f x : Str} {p pos kp : Pos} {e : Expr} {ta : TE} {tk : TA}
theorem blt_super (I : X.Ok) : ∃ mb, X.base.Ns builtinsNs mb ∧ mb "super" = some (.type "super") := by
  obtain ⟨mb, h1, h2⟩ := I.mod.blt
  exact ⟨mb, h1, (h2 _ (by decide +kernel)).trans (by first | boot_by_name | rfl | kernel_rfl)⟩
theorem run_exF {pins : List (Addr × Obj)} {σ : L2.St} {H : Hp} {s : Shared} {arg : Value → Args} {v : V} {u : Value} {R : Result → Shared → Prop} (M : MkF X.prog X.K X.mg C f arg) (hr : Room 1 X.A) (I : Inv X pins σ H s) (r : RelV v u)
    (q : ∀ h' tk e d t1, (∀ b o, s.heap.get? b = some o → h'.get? b = some o) → s.heap.get? e = none → s.heap.get? d = none → d ≠ e → h'.get? e = some (PySem.W.excObj C t1 (some d) .none) → h'.Ns1 d (fun y => if y = f then some u else none) → R (.ok (.ret (.ref e))) { s with heap := h', toks := tk }) :
    codeAny (model X.prog X.w) X.A (.call (.ref C) (arg u)) R s := by
  obtain ⟨mb, b1, b2⟩ := blt_super I.ok
  obtain ⟨h, g, d, t, os⟩ := s
  refine M X.w X.A h g d t os u mb R (by have := hr.dp; omega) I.kIn I.nolimit (I.mod.glob.keeps I.bk) (b1.keeps I.bk) b2 fun h' tk e dx t1 k e1 d1 n e2 d2 => ?_
  exact q h' tk e dx t1 k (Heap.get?_none_of_le e1) d1 n e2 d2
theorem pe_ex1 (M : MkF X.prog X.K X.mg C f (fun v => ⟨[v], []⟩)) (hr : Room 1 X.A) (gC : X.mg x = some (.ref C)) (kC : PySem.W.keepIn X.K (.ref C) = true) (hg : Gl X x) (he : PE X e ta)
    (hs : starEach [e] X.env = (false, eval e X.env) :: starEach [] X.env := by rfl) (hdb : (x == ("__debug__" : Str)) = false := by decide) : PE X (.Call (.Name x p) [e] [] pos) (tEx1 C f ta) := by
  refine ⟨fun pins s σ H Q I h => ?_⟩
  refine wpAny_Call_Name_kw (ld_glob I hg gC ?_ hdb)
  refine PySem.W.callWith_K (h₀ := X.base) I.ok.mod.kin kC ?_ hs (by rfl)
  rw [hs]
  refine Calls.spliced_cons (thn (he.run pins s σ H _ I h) fun u s1 ⟨v, H1, I1, r1, q1⟩ => ?_)
  refine Calls.spliced_nil ⟨I1.kIn, ?_⟩
  refine wpAny_call (run_exF M hr I1 r1 fun h' tk e d t1 k ne nd n e2 d2 => ?_)
  exact ⟨.ref e, _, inv_new2 I1 k ne nd n e2 ⟨rfl, rfl⟩ rfl d2 r1, rfl, q1 e d (I1.hok.gone ne) (I1.hok.gone nd) n⟩
theorem pe_ex0 (M : MkN X.prog X.K X.mg C) (hr : Room 1 X.A) (gC : X.mg x = some (.ref C)) (kC : PySem.W.keepIn X.K (.ref C) = true) (hg : Gl X x)
    (hdb : (x == ("__debug__" : Str)) = false := by decide) : PE X (.Call (.Name x p) [] [] pos) (tEx0 C) := by
  refine ⟨fun pins s σ H Q I h => ?_⟩
  refine wpAny_Call_Name_kw (ld_glob I hg gC ?_ hdb)
  refine PySem.W.callWith_K0 I.kIn kC (wpAny_call ?_)
  obtain ⟨mb, b1, b2⟩ := blt_super I.ok
  obtain ⟨h0, g, d, t, os⟩ := s
  refine M X.w X.A h0 g d t os mb _ (by have := hr.dp; omega) I.kIn I.nolimit (I.mod.glob.keeps I.bk) (b1.keeps I.bk) b2 fun h' tk e t1 k e1 e2 => ?_
  have ne : h0.get? e = none := Heap.get?_none_of_le e1
  exact ⟨.ref e, _, inv_new1 I k ne e2 ⟨rfl, rfl⟩ rfl, rfl, h e (I.hok.gone ne)⟩
theorem pe_exK (M : MkF X.prog X.K X.mg C f (fun v => ⟨[], [(f, v)]⟩)) (hr : Room 1 X.A) (gC : X.mg x = some (.ref C)) (kC : PySem.W.keepIn X.K (.ref C) = true) (hg : Gl X x) (he : PE X e ta)
    (hdb : (x == ("__debug__" : Str)) = false := by decide) (hall : (backToKw pos (keywordEach [⟨some f, e, kp⟩] X.env)).all (·.1.isSome) = true := by rfl) (hks : (backToKw pos (keywordEach [⟨some f, e, kp⟩] X.env)).filterMap (·.1) = [f] := by rfl)
    (hpl : ((backTo pos (starEach [] X.env)).any (·.1) || (backToKw pos (keywordEach [⟨some f, e, kp⟩] X.env)).any (·.1.isNone)) = false := by rfl) :
    PE X (.Call (.Name x p) [] [⟨some f, e, kp⟩] pos) (tExK C f (tCons ta tNil)) := by
  refine ⟨fun pins s σ H Q I h => ?_⟩
  refine wpAny_Call_Name_kw (ld_glob I hg gC ?_ hdb)
  refine PySem.W.callWith_KW0 (h₀ := X.base) I.ok.mod.kin kC hall ?_ hpl
  refine thn ((pk_cons he pk_nil).run pos pins s σ H _ I h) fun ws s2 ⟨zs, H2, I2, rz, v, ev, q2⟩ => ⟨I2.kIn, ?_⟩
  subst ev
  rw [hks]
  cases rz with
  | cons r1 rn =>
    cases rn
    refine wpAny_call (run_exF M hr I2 r1 fun h' tk e d t1 k ne nd n e2 d2 => ?_)
    exact ⟨.ref e, _, inv_new2 I2 k ne nd n e2 ⟨rfl, rfl⟩ rfl d2 r1, rfl, q2 e d (I2.hok.gone ne) (I2.hok.gone nd) n⟩
/-- an exception that is tracked, as the library's reading rules want it -/
theorem inst_exV {pins : List (Addr × Obj)} {σ : L2.St} {H : Hp} {s : Shared} {a C : Addr} {d : Option Addr} (I : Inv X pins σ H s) (e : H a = some (exV a C d)) (hd : ∀ dd, d = some dd → ∃ o, s.heap.get? dd = some o) :
    ∃ oe od, PySem.W.InstAt s.heap a oe C od ∧ ∀ dd, d = some dd → ∃ o, s.heap.get? dd = some o ∧ od = some o := by
  obtain ⟨⟨oe, vs, h1, h2, h3⟩, _⟩ := (show ObjOk X.prog X.w H s.heap a (exV a C d) from I.hok a _ e)
  have nc : PySem.W.notCls oe = true := by unfold PySem.W.notCls; rw [h3]
  cases d with
  | none => exact ⟨oe, none, ⟨h1, h2.1, nc, by rw [h2.2]; trivial⟩, fun _ z => nomatch z⟩
  | some dd =>
    obtain ⟨o, ho⟩ := hd dd rfl
    exact ⟨oe, some o, ⟨h1, h2.1, nc, by rw [h2.2]; exact ho⟩, fun dd' z => by cases z; exact ⟨o, ho, rfl⟩⟩
/-- e.f -/
def tExF (K : PySem.W.Frag) (f : Str) (te : TE) : TE := fun σ H Q => te σ H fun x H1 => ∃ (a C dd : Addr) (fs : List (Str × V)) (v : V), x = .ref a ∧ XfC K C ∧ PySem.W.findIn K (.ref C) f = some none ∧ H1 a = some (exV a C (some dd)) ∧ H1 dd = some (.xd fs) ∧ fs.lookup f = some v ∧ Q v H1
theorem pe_exF {e : Expr} {te : TE} {pos : Pos} {n : Str} (he : PE X e te) (hb : attributeBase e n X.env (eval e X.env) = eval e X.env := by rfl) : PE X (.Attribute e n pos) (tExF X.K n te) := by
  refine ⟨fun pins s σ H Q I h => ?_⟩
  refine attr_of hb (thn (he.run pins s σ H _ I h) fun u s1 hh => ?_)
  obtain ⟨x, H1, I1, rx, a, C, dd, fs, v, ex, T, hno, ea, ed, l, q⟩ := hh
  subst ex
  obtain rfl : u = Value.ref a := rx
  obtain ⟨mA, hns, hr⟩ := (show ObjOk X.prog X.w H1 s1.heap dd (.xd fs) from I1.hok dd _ ed)
  obtain ⟨od, ho, hl⟩ := lookIn_ns hns
  obtain ⟨u, hu, ru⟩ := RelO.some_of (v := v) (o := mA n) (by rw [← l]; exact hr n)
  obtain ⟨oe, od', J, hd'⟩ := inst_exV I1 ea fun d z => by cases z; exact ⟨od, ho⟩
  obtain ⟨o2, h2, e2⟩ := hd' dd rfl
  rw [ho] at h2
  cases h2
  subst e2
  exact HandSPX.exc_get I1.kIn J T.ga T.gg T.exC (PySem.W.findObj_own T.hdC hno rfl (by rw [hl, hu])) (handed_of ru) ⟨v, H1, I1.tok _, ru, q⟩
/-- isinstance(e, c) of such an exception -/
def rIsX (K : PySem.W.Frag) : List V → Hp → VK → Prop := fun xs H Q => ∃ (a D : Addr) (d : Option Addr) (c : V) (cv : Value) (b : Bool), xs = [.ref a, c] ∧ L2.ExcC K D ∧ H a = some (exV a D d) ∧ (∀ dd, d = some dd → ∃ fs, H dd = some (.xd fs)) ∧ ClsV c cv ∧ PySem.W.kitOne K (.ref D) cv = some b ∧ Q (.bl b) H
theorem call_isX : CallR X (.builtin "isinstance") (rIsX X.K) := by
  intro pins s σ H xs us Q I r h
  obtain ⟨a, D, d, c, cv, b, rfl, T, ea, hd, k, e, q⟩ := h
  obtain ⟨u1, u2, rfl, r1, r2⟩ := vals2 r
  have e2 := k.eq r2
  subst e2
  obtain rfl : u1 = Value.ref a := r1
  obtain ⟨oe, od, J, _⟩ := inst_exV I ea fun dd z => by
    obtain ⟨fs, hf⟩ := hd dd z
    obtain ⟨mA, ⟨o, _, _, ho, _⟩, _⟩ := (show ObjOk X.prog X.w H s.heap dd (.xd fs) from I.hok dd _ hf)
    exact ⟨o, ho⟩
  obtain ⟨cdD, hcD, _⟩ := PySem.W.any_some T.hd
  exact PySem.W.kia_one (PySem.W.kitx_exc (by rw [hcD]; rfl) T.hg T.hk T.hs T.ha T.hn T.ht T.hm) I.kIn J e (fun z => nomatch z) fun tk => ⟨.bl b, H, I.kept (t' := tk) fun _ _ z => z, rfl, q⟩
end
end Sx

/-! The hand layer where it is known that no repr runs around: defs that say repr(..). -/
namespace Gx
open PySem PySem.Spec PyProof.Rows L2
/-- a def's promise, called where no guard stands -/
structure FnG (P : Program) (w : World) (K : PySem.W.Frag) (mg : Str → Option Value) (base : Heap) (CX : CXT) (k : Nat) (f : Addr) (fd : FuncData) (ps : List Str) (sp : Sp) : Prop where
  len : ∀ vs H Q E, sp vs H Q E → vs.length = ps.length
  run : ∀ (A : Around) (outer : List Env) (s : Shared) (H : Hp) (args : Args) (us : List Value) (vs : List V) (Q : VK) (E : XK), A.guards = some [] → Room k A → Env0 P w K mg base A outer s H →
    BindsTo s fd args (ps.zip us) → Vals vs us → sp vs H Q E → codeAny (model P w) A (.call (.ref f) args) (CR CX outer P w H s Q E) s
section
variable {P : Program} {w : World} {K : PySem.W.Frag} {mg : Str → Option Value} {base : Heap} {CX : CXT} {k j : Nat} {f : Addr} {fd : FuncData} {ps : List Str} {sp : Sp}
theorem FnG.of (F : FnOk P w K mg base CX k f fd ps sp) : FnG P w K mg base CX k f fd ps sp := ⟨F.len, fun A outer s H args us vs Q E _ => F.run A outer s H args us vs Q E⟩
theorem FnG.mono (F : FnG P w K mg base CX j f fd ps sp) (hj : j ≤ k) : FnG P w K mg base CX k f fd ps sp := ⟨F.len, fun A outer s H args us vs Q E hg hr => F.run A outer s H args us vs Q E hg (hr.mono hj)⟩
/-- a def by its body, where no guard stands -/
theorem fn_ofG {name qual : Str} {params : Arguments} {body : List Stmt} {scope : Scope} {dV kV doc pm cdv ct oc : Value} {an od : Option Addr} {osl : Array (Option Value)} {N : List Str}
    (lk : K.lookup f = some ⟨oc, od, .func (PySem.W.fnOf name qual params body scope dV kV doc pm an cdv ct), osl⟩) (hcd : PySem.W.codeIn K cdv qual = true) (S : FnScope N ps scope) (len : ∀ vs H Q E, sp vs H Q E → vs.length = ps.length)
    (hbody : ∀ (A : Around) (outer : List Env) (s : Shared) (H : Hp) (vs : List V) (Q : VK) (E : XK), A.guards = some [] → Room k (A.deeper (envOfC qual scope s.heap.objs.size f cdv)) → sp vs H Q E →
      ∃ t, PSs (cxOf CX P w K mg base N qual scope f cdv A outer s H E) body t ∧ t { nx := fun _ H' => Q .non H', rt := Q } (start N vs) H) :
    FnG P w K mg base CX (k + 1) f (PySem.W.fnOf name qual params body scope dV kV doc pm an cdv ct) ps sp := by
  refine ⟨len, fun A outer s H args us vs Q E hgd hr e0 hb r hsp => ?_⟩
  have el := len _ _ _ _ hsp
  have hK : K.In s.heap := e0.mod.kin.keeps fun b o e => (e0.bs b o e).1
  have hlim : s.heap.NoLimit := e0.mod.nolimit.keeps fun b o e => (e0.bs b o e).1
  have kinds : ∀ y ∈ ps.zip us, scope.names.lookup y.1 = some .local ∨ (scope.names.lookup y.1 = some .cell ∧ ((cellsFrom (s.heap.objs.size + 1) scope.names []).lookup y.1).isSome = true) := by
    rintro ⟨n, v⟩ hy
    rcases S.par n (List.of_mem_zip hy).1 with z | z
    · exact .inl z
    · exact .inr ⟨z, PySem.W.cellsFrom_some _ _ _ (.inl z)⟩
  refine codeAny_call_function hr.depth (hK _ _ lk) rfl S.co S.gen rfl (PySem.W.codeRec_of hK hcd) (hb _ _ _ _ ?_)
  refine wpAny_newFunctionEnv_cells S.kind kinds fun env he s1 x => ?_
  subst he
  refine ⟨hlim.keeps x.toInCall.keep, codeAny_func ?_⟩
  obtain ⟨t, ht, hq⟩ := hbody A outer s H vs Q E hgd (hr.deeper _) hsp
  have I0 := inv_start (CX := CX) (E := E) S hr.hd e0 el r x
  refine wpAny_mono (ht.run [] s1 (start N vs) H _ I0 hq) (fun fl s' hs => ?_) fun e s' hs => hs
  have fin : ∀ {σ' : L2.St} {H' : Hp} {v : V} {u : Value}, Inv (cxOf CX P w K mg base N qual scope f cdv A outer s H E) [] σ' H' s' → RelV v u → Q v H' → CE outer P w H s Q u s' :=
    fun J rv q => ⟨_, _, J.os, J.bare, J.base, J.hok, rv, q⟩
  cases fl with
  | next =>
    obtain ⟨σ', H', J, q⟩ := hs
    exact fin (v := V.non) (u := Value.none) J rfl q
  | ret u =>
    obtain ⟨v, σ', H', J, rv, q⟩ := hs
    exact fin J rv q
  | brk =>
    obtain ⟨_, _, _, q⟩ := hs
    exact q.elim
  | cont =>
    obtain ⟨_, _, _, q⟩ := hs
    exact q.elim
/-- as Fun.ok -/
theorem okG {x qual : Str} {st : Stmt} {N : List Str} (F : Fun K x qual st f fd) (S : FnScope N ps (defScope st)) (len : ∀ vs H Q E, sp vs H Q E → vs.length = ps.length)
    (hbody : ∀ (cdv : Value) (A : Around) (outer : List Env) (s : Shared) (H : Hp) (vs : List V) (Q : VK) (E : XK), A.guards = some [] → Room k (A.deeper (envOfC qual (defScope st) s.heap.objs.size f cdv)) → sp vs H Q E →
      ∃ t, PSs (cxOf CX0 P w K mg base N qual (defScope st) f cdv A outer s H E).nox (defBody st) t ∧ t { nx := fun _ H' => Q .non H', rt := Q } (start N vs) H) : FnG P w K mg base CX0 (k + 1) f fd ps sp := by
  obtain ⟨oc, od, kV, doc, pm, an, cdv, ct, osl, rfl, lk, hcd⟩ := F.ex
  refine fn_ofG lk hcd S len fun A outer s H vs Q E hg hr hsp => ?_
  obtain ⟨t, ht, q⟩ := hbody cdv A outer s H vs Q E hg hr hsp
  exact ⟨t, ht.nox, q⟩
end
section
variable {X : Cx} {CX : CXT} {k : Nat} {f : Addr} {fd : FuncData} {ps : List Str} {sp : Sp} {dvs : List V} {ds : List Value} {E : XK} {x : Str} {p pos : Pos} {e : Expr} {es : List Expr} {t : TA}
/-- f(..), where no guard stands -/
theorem pe_callG (hgd : X.A.guards = some []) (F : FnG X.prog X.w X.K X.mg X.base CX k f fd ps sp) (hr : Room k X.A) (hg : Gl X x) (hm : X.mg x = some (.ref f)) (hk : PySem.W.keepIn X.K (.ref f) = true) (hb : Binds X.K fd ps ds) (hd : Vals dvs ds) (hx : Passes CX X E)
    (ha : PA X (e :: es) t) (hdb : (x == ("__debug__" : Str)) = false := by decide) (he : starEach (e :: es) X.env = (false, eval e X.env) :: starEach es X.env := by rfl) (hpl : (backTo pos (starEach es X.env)).any (·.1) = false := by rfl) :
    PE X (.Call (.Name x p) (e :: es) [] pos) (tCall sp dvs E t) := by
  refine ⟨fun pins s σ H Q I h => ?_⟩
  refine wpAny_Call_Name_kw (ld_glob I hg hm ?_ hdb)
  refine PySem.W.callWith_K (h₀ := X.base) I.ok.mod.kin hk (thn (ha.run pos pins s σ H _ I h) fun us s1 ⟨vs, H1, I1, r1, q1⟩ => ⟨I1.kIn, ?_⟩) he hpl
  have r2 : Vals (vs ++ dvs) (us ++ ds) := r1.append hd
  have hl : (us ++ ds).length = ps.length := by rw [← r2.length]; exact F.len _ _ _ _ q1
  refine wpAny_call (codeAny_mono (F.run X.A X.stack s1 H1 ⟨us, []⟩ (us ++ ds) (vs ++ dvs) Q E hgd hr I1.env0 (hb s1 us I1.kIn hl) r2 q1) fun r s' hq => ?_)
  cases r with
  | error e => exact hx pins σ H1 s1 e s' I1 hq
  | ok fl =>
    cases fl with
    | ret u => exact I1.after hq
    | next => exact hq.elim
    | brk => exact hq.elim
    | cont => exact hq.elim
/-- repr of data that can be read as d -/
def rReprD (P : Program) (w : World) (K : PySem.W.Frag) : List V → Hp → VK → Prop := fun xs H Q => ∃ (x : V) (d : PyData), xs = [x] ∧ (∃ a, x = .ref a) ∧ Dp K H x d ∧ d.showable = true ∧ d.hasDict = false ∧ d.depth ≤ 60 ∧ d.shown.length ≤ sizeLine ∧ Q (.str d.shown) H
theorem call_reprD (hgd : X.A.guards = some []) (hu : X.A.units + 64 < cLine) : CallR X (.builtin "repr") (rReprD X.prog X.w X.K) := by
  intro pins s σ H xs us Q I r h
  obtain ⟨x, d, rfl, ⟨a, rfl⟩, hd, h1, h2, h3, h4, q⟩ := h
  obtain ⟨u, rfl, ru⟩ := vals1 r
  obtain ⟨as, R⟩ := Dp.reads I d _ u hd ru
  obtain rfl : u = Value.ref a := ru
  refine repr_of_reads' R h1 (fun z => by rw [h2] at z; cases z) hgd (by omega) (fun _ _ z => z) (fun h' u tk kk => ?_) h4
  exact ⟨.str d.shown, H, I.kept (t' := tk) kk, ⟨u, rfl⟩, q⟩
end
/-! ### the end of a law's row -/
section
variable {P : Program} {w : World} {K : PySem.W.Frag} {mg mb : Str → Option Value} {CX : CXT} {k : Nat} {fa a : Addr} {fd : FuncData} {x : Str} {sp : Sp} {s₁ : Shared} {vs : List Value} {ns : List Int}
/-- from an abstract heap in which the script alone may stand -/
theorem law_core (KX : K.In s₁.heap) (hns : s₁.heap.Ns mainGlobals mg) (hb : s₁.heap.Ns builtinsNs mb) (hbb : ∀ x : Str, x ≠ "__name__" → mb x = bootBuiltins x) (hlim : s₁.heap.NoLimit) (hg : s₁.gens = #[])
    (ha : s₁.heap.get? a = some { cls := .type "list", data := .seq vs.toArray }) (hr : Room k callerA)
    (F : ∀ base : Heap, K.In base → base.Ns mainGlobals mg → FnG P w K mg base CX k fa fd [x] sp) (hbind : ∀ (s : Shared) (u : Value), BindsTo s fd ⟨[u], []⟩ [(x, u)])
    (hCX : ∀ H e s', CX [] H s₁ (fun _ _ _ => False) e s' → False) {H : Hp} (hO : Only H) (hsp : sp [.ref a] H (fun v _ => v = .bl true) fun _ _ _ => False) (hok : HOk P w H s₁.heap) (hA : ∀ b, H b ≠ none → b = a) (hK : H a ≠ none → K.lookup a = none) :
    codeAny (model P w) callerA (.call (.ref fa) ⟨[.ref a], []⟩) (fun r s' => r = .ok (.ret (.bool true)) ∧ OldK s₁.heap s'.heap ∧ s'.os = s₁.os ∧ AllBare s'.gens) s₁ := by
  have out : ∀ {b : Addr}, b ≠ a → H b = none := fun {b} n => by
    cases q : H b with
    | none => rfl
    | some u => exact absurd (hA b (by rw [q]; simp)) n
  have dict_out : ∀ {b : Addr} {o : Obj} {es : Array DictEntry} {ep : Nat}, s₁.heap.get? b = some o → o.data = .dict es ep → H b = none := fun {b o es ep} z d => out fun y => by
    rw [y, ha] at z
    cases z
    cases d
  have nsB : ∀ {b : Addr} {m : Str → Option Value}, s₁.heap.Ns b m → (hidT s₁.heap H).Ns b m := fun ⟨o, es, ep, z, d, r⟩ => ⟨o, es, ep, hidT_get z (dict_out z d), d, r⟩
  have kB : K.In (hidT s₁.heap H) := fun b o z => hidT_get (KX b o z) (by
    cases q : H b with
    | none => rfl
    | some u =>
      have y := hA b (by rw [q]; simp)
      rw [y] at q z
      rw [hK (by rw [q]; simp)] at z
      cases z)
  obtain ⟨mc, c1, c2⟩ := hlim
  have e0 : Env0 P w K mg (hidT s₁.heap H) callerA [] s₁ H :=
    ⟨rfl, ⟨kB, nsB hns, ⟨mb, nsB hb, hbb⟩, ⟨mc, nsB c1, c2⟩⟩, fun b o z => of_hidT z, Nat.le_of_eq (hidT_size _ _), trivial, fun b z => absurd (show b ∈ ([] : List Addr) from z) (by simp), hok, .of_eq hg⟩
  refine codeAny_mono ((F _ kB (nsB hns)).run callerA [] s₁ H ⟨[.ref a], []⟩ [.ref a] [.ref a] _ _ rfl hr e0 (hbind s₁ (.ref a)) (.cons rfl .nil) hsp) fun r s' z => ?_
  rcases r with e | fl
  · exact (hCX H e s' z).elim
  · cases fl with
    | ret u =>
      obtain ⟨v, H', os, bare, un, hok', rv, q⟩ := z
      have q : v = .bl true := q
      subst q
      obtain rfl : u = Value.bool true := rv
      refine ⟨rfl, OldK.of_keep fun b o e => ?_, os, bare⟩
      rcases hO b with y | ⟨ob, xs, y⟩
      · exact un.keep b o e y (fun z => absurd (show b ∈ ([] : List Addr) from z) (by simp)) (by simp)
      · obtain ⟨e1, _⟩ := hok b _ y
        obtain ⟨e2, _⟩ := hok' b _ (un.frzs b ob _ y)
        rw [e] at e1
        cases e1
        exact e2
    | next => exact z.elim
    | brk => exact z.elim
    | cont => exact z.elim
theorem law_callG (KX : K.In s₁.heap) (hns : s₁.heap.Ns mainGlobals mg) (hb : s₁.heap.Ns builtinsNs mb) (hbb : ∀ x : Str, x ≠ "__name__" → mb x = bootBuiltins x) (hlim : s₁.heap.NoLimit) (hg : s₁.gens = #[])
    (ha : s₁.heap.get? a = some { cls := .type "list", data := .seq vs.toArray }) (hi : IntsAre vs ns) (hl : ns.length ≤ sizeLine) (hr : Room k callerA)
    (F : ∀ base : Heap, K.In base → base.Ns mainGlobals mg → FnG P w K mg base CX k fa fd [x] sp) (hbind : ∀ (s : Shared) (u : Value), BindsTo s fd ⟨[u], []⟩ [(x, u)])
    (hsp : ∀ H : Hp, Only H → SqL K H a (ns.map V.int) → sp [.ref a] H (fun v _ => v = .bl true) fun _ _ _ => False) (hCX : ∀ H e s', CX [] H s₁ (fun _ _ _ => False) e s' → False) :
    codeAny (model P w) callerA (.call (.ref fa) ⟨[.ref a], []⟩) (fun r s' => r = .ok (.ret (.bool true)) ∧ OldK s₁.heap s'.heap ∧ s'.os = s₁.os ∧ AllBare s'.gens) s₁ := by
  have rv := vals_ints hi
  cases hk : K.lookup a with
  | some o =>
    have e := KX a o hk
    rw [ha] at e
    cases e
    exact law_core KX hns hb hbb hlim hg ha hr F hbind hCX (H := fun _ => none) (fun _ => .inl rfl) (hsp _ (fun _ => .inl rfl) (.inr ⟨_, vs.toArray, _, hk, rfl, rfl, rfl, by rw [List.size_toArray, hi.length]; exact hl, by simpa using rv⟩))
      (fun b u z => nomatch z) (fun b z => absurd rfl z) fun z => absurd rfl z
  | none =>
    let H : Hp := fun b => if b = a then some (.frz { cls := .type "list", data := .seq vs.toArray } (.lst (ns.map V.int))) else none
    have H1 : H a = some (.frz { cls := .type "list", data := .seq vs.toArray } (.lst (ns.map V.int))) := if_pos rfl
    have H2 : ∀ {b}, b ≠ a → H b = none := fun n => if_neg n
    have hO : Only H := fun b => by
      by_cases e : b = a
      · rw [e]; exact .inr ⟨_, _, H1⟩
      · exact .inl (H2 e)
    refine law_core KX hns hb hbb hlim hg ha hr F hbind hCX hO (hsp _ hO (.inl (.inr ⟨_, H1⟩))) (fun b u z => ?_) (fun b z => ?_) fun _ => hk
    · by_cases e : b = a
      · subst e
        rw [H1] at z
        cases z
        exact ⟨ha, by rw [List.length_map]; exact hl, vs, _, rv, ha⟩
      · rw [H2 e] at z
        cases z
    · by_cases e : b = a
      · exact e
      · exact absurd (H2 e) z
end
/-- the goal that k_head leaves -/
theorem walk_ofG {l : PySem.W.OpenLaw} {n k : Nat} {q : Program} {loose : List Str} {XP : (Str → Option Value) → Heap → Prop} {YP : World → Heap → Prop} {d : DefRec} {K : Params → PySem.W.Frag} {sp : PySem.W.Frag → Sp} {x : Str}
    (hn : l.most = some n) (hn2 : n ≤ sizeLine) (hdf : d.params.defaults = []) (hr : Room k callerA) (hY : ∀ (w : World) (h : Heap), YP w h → (K w.params).In h)
    (F : ∀ (w : World) (mg : Str → Option Value) (fa : Addr) (h : Heap), (K w.params).In h → h.Ns mainGlobals mg → mg d.name = some (.ref fa) →
      ∃ fd : FuncData, (∀ (s : Shared) (u : Value), BindsTo s fd ⟨[u], []⟩ [(x, u)]) ∧ ∀ base : Heap, (K w.params).In base → base.Ns mainGlobals mg → FnG l.prog w (K w.params) mg base CX0 k fa fd [x] (sp (K w.params)))
    (hsp : ∀ (K : PySem.W.Frag) (H : Hp) (a : Addr) (ns : List Int), ns.length ≤ n → Only H → SqL K H a (ns.map V.int) → sp K [.ref a] H (fun v _ => v = .bl true) fun _ _ _ => False) :
    PySem.W.WalkO q loose XP YP l.row.toRowW d [] (fun f vs => PySem.call f vs) := by
  refine Att.attach_call hn hdf fun w s₀ s₁ mg mb fa o pm cd doc a vs ns G Y ho hd hcd hmg hobj hints hlen hg => ?_
  have KX := hY w _ Y
  obtain ⟨fd, hb, hF⟩ := F w mg fa _ KX G.T.g hmg
  exact law_callG KX G.T.g G.T.b G.T.builtins G.T.nolimit hg hobj hints (Nat.le_trans hlen hn2) hr hF hb (fun H hO hS => hsp (K w.params) H a ns hlen hO hS) fun _ _ _ z => z
end Gx

/-! repr of what can be shown; exceptions that keep a value. -/
namespace Gx
open PySem PySem.Spec PyProof.Rows L2 Sx
/-- x is shown as the text z -/
inductive RepD (K : PySem.W.Frag) (H : Hp) : V → Str → Prop
  | non : RepD K H .non "None"
  | bl (b : Bool) : RepD K H (.bl b) (if b then "True" else "False")
  | int (i : Int) (h : i.natAbs.log2 < 1920) : RepD K H (.int i) (toString i)
  | str (x : Str) (h : (reprText x).length ≤ sizeLine) : RepD K H (.str x) (reprText x)
  | data {a : Addr} {d : PyData} (h : Dp K H (.ref a) d) (h1 : d.showable = true) (h2 : d.hasDict = false) (h3 : d.depth ≤ 60) (h4 : d.shown.length ≤ sizeLine) : RepD K H (.ref a) d.shown
  | emp {a : Addr} (h : H a = some (.dK [])) : RepD K H (.ref a) (PyData.dict []).shown
def rRep (K : PySem.W.Frag) : List V → Hp → VK → Prop := fun xs H Q => ∃ x z, xs = [x] ∧ RepD K H x z ∧ Q (.str z) H
theorem call_rep {X : Cx} {K : PySem.W.Frag} (hK : X.K = K) (hgd : X.A.guards = some []) (hu : X.A.units + 64 < cLine) : CallR X (.builtin "repr") (rRep K) := by
  subst hK
  intro pins s σ H xs us Q I r h
  obtain ⟨x, z, rfl, hz, q⟩ := h
  obtain ⟨u, rfl, ru⟩ := vals1 r
  cases hz with
  | non =>
    cases (show u = Value.none from ru)
    exact PySem.P.repr_of_none ⟨.str _, H, I.tok _, ⟨_, rfl⟩, q⟩
  | bl b =>
    cases (show u = Value.bool b from ru)
    exact PySem.P.repr_of_bool ⟨.str _, H, I.tok _, ⟨_, rfl⟩, q⟩
  | int i hi =>
    obtain ⟨t, e⟩ := (show ∃ t, u = Value.int i t from ru)
    subst e
    exact PySem.P.repr_of_int hi ⟨.str _, H, I.tok _, ⟨_, rfl⟩, q⟩
  | str y hy =>
    obtain ⟨t, e⟩ := (show ∃ t, u = Value.str y t from ru)
    subst e
    exact PySem.P.repr_of_str ⟨.str _, H, I.tok _, ⟨_, rfl⟩, q⟩ hy
  | @data a d hd h1 h2 h3 h4 =>
    obtain ⟨as, R⟩ := Dp.reads I d _ u hd ru
    obtain rfl : u = Value.ref a := ru
    refine repr_of_reads' R h1 (fun z => by rw [h2] at z; cases z) hgd (by omega) (fun _ _ z => z) (fun h' u tk kk => ?_) h4
    exact ⟨.str d.shown, H, I.kept (t' := tk) kk, ⟨u, rfl⟩, q⟩
  | @emp a ha =>
    obtain rfl : u = Value.ref a := ru
    obtain ⟨_, hs, vs, kv, o, es, ep, h1, h2, h3, h4⟩ := (show ObjOk X.prog X.w H s.heap a (.dK []) from I.hok a _ ha)
    have e0 : vs = [] := by cases kv; rfl
    subst e0
    have es0 : es.toList = [] := by
      obtain ⟨_, z, _⟩ := h4
      cases hz : es.toList with
      | nil => rfl
      | cons x l =>
        rw [hz] at z
        cases z
    have R : Reads s.heap (.ref a) (.dict []) (a :: [] ++ []) := .dict h1 h2.1 h3 (by rw [es0]; exact .nil) (by rw [es0]; exact .nil)
    refine repr_of_reads' R rfl (fun _ z => ?_) hgd (by show X.A.units + (1 + 1) < cLine; omega) (fun _ _ z => z) (fun h' u tk kk => ?_) (by decide +kernel)
    · have z : sysModules = a := by simpa using z
      rw [← z] at hs
      simp at hs
    · exact ⟨.str _, H, I.kept (t' := tk) kk, ⟨u, rfl⟩, q⟩
mutual
theorem dp_same {K : PySem.W.Frag} {H H' : Hp} (s : Same H H') : ∀ {v : V} {d : PyData}, Dp K H v d → Dp K H' v d
  | _, _, .non => .non
  | _, _, .bl b => .bl b
  | _, _, .int i => .int i
  | _, _, .str x => .str x
  | _, _, .lst h t => .lst (s.seq h) (dpAll_same s t)
  | _, _, .tup h t => .tup (by
      rcases h with (h | ⟨o, h⟩) | h
      · exact .inl (.inl (s _ _ h))
      · exact .inl (.inr ⟨o, s _ _ h⟩)
      · exact .inr h) (dpAll_same s t)
theorem dpAll_same {K : PySem.W.Frag} {H H' : Hp} (s : Same H H') : ∀ {vs : List V} {ds : List PyData}, DpAll K H vs ds → DpAll K H' vs ds
  | _, _, .nil => .nil
  | _, _, .cons h t => .cons (dp_same s h) (dpAll_same s t)
end
theorem RepD.same {K : PySem.W.Frag} {H H' : Hp} {v : V} {z : Str} (h : RepD K H v z) (s : Same H H') : RepD K H' v z := by
  cases h with
  | non => exact .non
  | bl b => exact .bl b
  | int i h => exact .int i h
  | str x h => exact .str x h
  | data h h1 h2 h3 h4 => exact .data (dp_same s h) h1 h2 h3 h4
  | emp h => exact .emp (s _ _ h)
/-- at a: an exception of the class at C that keeps v as f -/
def IsE (H : Hp) (a C : Addr) (f : Str) (v : V) : Prop := ∃ d, H a = some (exV a C (some d)) ∧ H d = some (.xd [(f, v)])
def IsN (H : Hp) (a C : Addr) : Prop := H a = some (exV a C none)
theorem IsE.same {H H' : Hp} {a C : Addr} {f : Str} {v : V} (h : IsE H a C f v) (s : Same H H') : IsE H' a C f v := let ⟨d, h1, h2⟩ := h; ⟨d, s _ _ h1, s _ _ h2⟩
theorem made {H : Hp} {e d C : Addr} {f : Str} {v : V} (ne : H e = none) (nd : H d = none) (n : d ≠ e) :
    Same H (upd (upd H d (.xd [(f, v)])) e (exV e C (some d))) ∧ IsE (upd (upd H d (.xd [(f, v)])) e (exV e C (some d))) e C f v :=
  ⟨fun b o z => by rw [upd_ne (ne_of_none z ne), upd_ne (ne_of_none z nd)]; exact z, d, upd_same, by rw [upd_ne n, upd_same]⟩
theorem sameN {H : Hp} {p : Addr} {o : HO} (h : H p = none) : Same H (upd H p o) := fun b x e => by
  rw [upd_ne (ne_of_none e h)]
  exact e
/-- what is asked of a class whose exceptions are read -/
structure RdC (K : PySem.W.Frag) (C : Addr) (f : Str) : Prop where
  x : XfC K C
  n : PySem.W.findIn K (.ref C) f = some none
theorem readE {K : PySem.W.Frag} {H : Hp} {a C : Addr} {f : Str} {v : V} {Q : VK} (i : IsE H a C f v) (T : RdC K C f) (q : Q v H) :
    ∃ (a' C' dd : Addr) (fs : List (Str × V)) (v' : V), V.ref a = .ref a' ∧ XfC K C' ∧ PySem.W.findIn K (.ref C') f = some none ∧ H a' = some (exV a' C' (some dd)) ∧ H dd = some (.xd fs) ∧ fs.lookup f = some v' ∧ Q v' H := by
  obtain ⟨d, h1, h2⟩ := i
  exact ⟨a, C, d, _, v, rfl, T.x, T.n, h1, h2, by simp [List.lookup], q⟩
end Gx

/-! repr of data in which an empty dict may stand. -/
namespace Gx
open PySem PySem.Spec PyProof.Rows L2 Sx
mutual
inductive De (K : PySem.W.Frag) (H : Hp) : V → PyData → Prop
  | non : De K H .non .none
  | bl (b : Bool) : De K H (.bl b) (.bool b)
  | int (i : Int) : De K H (.int i) (.int i)
  | str (x : Str) : De K H (.str x) (.str x)
  | emp {a : Addr} : H a = some (.dK []) → De K H (.ref a) (.dict [])
  | lst {a : Addr} {xs : List V} {ds : List PyData} : SqL K H a xs → DeAll K H xs ds → De K H (.ref a) (.list ds)
  | tup {a : Addr} {xs : List V} {ds : List PyData} : SqT K H a xs → DeAll K H xs ds → De K H (.ref a) (.tuple ds)
inductive DeAll (K : PySem.W.Frag) (H : Hp) : List V → List PyData → Prop
  | nil : DeAll K H [] []
  | cons {v : V} {vs : List V} {d : PyData} {ds : List PyData} : De K H v d → DeAll K H vs ds → DeAll K H (v :: vs) (d :: ds)
end
mutual
theorem de_same {K : PySem.W.Frag} {H H' : Hp} (s : Same H H') : ∀ {v : V} {d : PyData}, De K H v d → De K H' v d
  | _, _, .non => .non
  | _, _, .bl b => .bl b
  | _, _, .int i => .int i
  | _, _, .str x => .str x
  | _, _, .emp h => .emp (s _ _ h)
  | _, _, .lst h t => .lst (s.seq h) (deAll_same s t)
  | _, _, .tup h t => .tup (by
      rcases h with (h | ⟨o, h⟩) | h
      · exact .inl (.inl (s _ _ h))
      · exact .inl (.inr ⟨o, s _ _ h⟩)
      · exact .inr h) (deAll_same s t)
theorem deAll_same {K : PySem.W.Frag} {H H' : Hp} (s : Same H H') : ∀ {vs : List V} {ds : List PyData}, DeAll K H vs ds → DeAll K H' vs ds
  | _, _, .nil => .nil
  | _, _, .cons h t => .cons (de_same s h) (deAll_same s t)
end
section
variable {X : Cx} {pins : List (Addr × Obj)} {σ : L2.St} {H : Hp} {s : Shared}
theorem not_sys (hS : ∃ m, X.base.Ns sysModules m) (I : Inv X pins σ H s) {a : Addr} {o : Obj} {vs : Array Value} {n : Nat} (h : s.heap.get? a = some o) (hc : o.data = .seq vs n) : a ≠ sysModules := by
  intro e
  subst e
  obtain ⟨m, hm⟩ := hS
  obtain ⟨o2, es, ep, h1, h2, _⟩ := hm.keeps I.bk
  rw [h] at h1
  cases h1
  rw [hc] at h2
  cases h2
mutual
theorem De.reads (hS : ∃ m, X.base.Ns sysModules m) (I : Inv X pins σ H s) : ∀ (d : PyData) (v : V) (u : Value), De X.K H v d → RelV v u → ∃ as, Reads s.heap u d as ∧ sysModules ∉ as
  | .none, _, _, h, r => by
    cases h
    cases r
    exact ⟨_, Reads.none, by simp⟩
  | .bool b, _, _, h, r => by
    cases h
    cases r
    exact ⟨_, Reads.bool b, by simp⟩
  | .int i, _, _, h, r => by
    cases h
    obtain ⟨t, rfl⟩ := r
    exact ⟨_, Reads.int i t, by simp⟩
  | .str x, _, _, h, r => by
    cases h
    obtain ⟨t, rfl⟩ := r
    exact ⟨_, Reads.str x t, by simp⟩
  | .list ds, _, _, h, r => by
    cases h with
    | lst hs ha =>
      cases r
      obtain ⟨its, rv, ⟨o, n, ho, hc, _, hd⟩, _⟩ := I.list hs
      obtain ⟨as, hr, hn⟩ := De.readsAll hS I ds _ its ha rv
      exact ⟨_, Reads.list ho hc hd hr, fun z => by
        rcases List.mem_cons.mp z with z | z
        · exact not_sys hS I ho hd z.symm
        · exact hn z⟩
  | .tuple ds, _, _, h, r => by
    cases h with
    | tup hs ha =>
      cases r
      obtain ⟨its, rv, ⟨o, ho, hc, n, hd⟩, _⟩ := I.tuple hs
      obtain ⟨as, hr, hn⟩ := De.readsAll hS I ds _ its ha rv
      exact ⟨_, Reads.tuple ho hc hd hr, hn⟩
  | .dict _, _, _, h, r => by
    cases h with
    | @emp a ha =>
      cases r
      obtain ⟨_, hs, vs, kv, o, es, ep, h1, h2, h3, h4⟩ := (show ObjOk X.prog X.w H s.heap a (.dK []) from I.hok a _ ha)
      have e0 : vs = [] := by cases kv; rfl
      subst e0
      have es0 : es.toList = [] := by
        obtain ⟨_, z, _⟩ := h4
        cases hz : es.toList with
        | nil => rfl
        | cons x l =>
          rw [hz] at z
          cases z
      refine ⟨a :: [] ++ [], .dict h1 h2.1 h3 (by rw [es0]; exact .nil) (by rw [es0]; exact .nil), fun z => ?_⟩
      have z : sysModules = a := by simpa using z
      rw [← z] at hs
      simp at hs
theorem De.readsAll (hS : ∃ m, X.base.Ns sysModules m) (I : Inv X pins σ H s) : ∀ (ds : List PyData) (vs : List V) (us : List Value), DeAll X.K H vs ds → Vals vs us → ∃ as, ReadsAll s.heap us ds as ∧ sysModules ∉ as
  | [], _, _, h, r => by
    cases h
    cases r
    exact ⟨_, ReadsAll.nil, by simp⟩
  | d :: ds, _, _, h, r => by
    cases h with
    | cons h1 h2 =>
      cases r with
      | cons r1 r2 =>
        obtain ⟨as, q1, n1⟩ := De.reads hS I d _ _ h1 r1
        obtain ⟨bs, q2, n2⟩ := De.readsAll hS I ds _ _ h2 r2
        exact ⟨_, ReadsAll.cons q1 q2, fun z => (List.mem_append.mp z).elim n1 n2⟩
end
end
/-- d can be shown -/
def shows (d : PyData) : Bool := d.showable && decide (d.depth ≤ 60) && decide (d.shown.length ≤ sizeLine)
def rRepE (K : PySem.W.Frag) : List V → Hp → VK → Prop := fun xs H Q => ∃ (a : Addr) (d : PyData), xs = [.ref a] ∧ De K H (.ref a) d ∧ shows d = true ∧ Q (.str d.shown) H
theorem call_repE {X : Cx} {K : PySem.W.Frag} (hX : X.K = K) (hS : ∃ m, X.base.Ns sysModules m) (hgd : X.A.guards = some []) (hu : X.A.units + 64 < cLine) : CallR X (.builtin "repr") (rRepE K) := by
  subst hX
  intro pins s σ H xs us Q I r h
  obtain ⟨a, d, rfl, hd, hs, q⟩ := h
  obtain ⟨u, rfl, ru⟩ := vals1 r
  obtain rfl : u = Value.ref a := ru
  obtain ⟨as, R, hn⟩ := De.reads hS I d _ _ hd rfl
  unfold shows at hs
  simp only [Bool.and_eq_true, decide_eq_true_eq] at hs
  refine repr_of_reads' R hs.1.1 (fun _ => hn) hgd (by omega) (fun _ _ z => z) (fun h' u tk kk => ?_) hs.2
  exact ⟨.str d.shown, H, I.kept (t' := tk) kk, ⟨u, rfl⟩, q⟩
end Gx

/-! is_whole and is_set where ints stand. -/
namespace Sg
open PySem PySem.Spec PyProof.Rows L2 RZ
abbrev sWhole : Stmt := topS 15
abbrev sSet : Stmt := topS 16
section
variable {P : Program} {w : World} {K : PySem.W.Frag} {mg : Str → Option Value} {base : Heap}
def spWhole : Sp := fun vs H Q _ => ∃ i m : Int, vs = [.int i, .int m] ∧ Q (.bl (decide (0 ≤ i) && decide (i < m))) H
theorem scWhole : FnScope ["value", "many"] ["value", "many"] (defScope sWhole) := ⟨rfl, rfl, rfl, by decide +kernel, rfl, by decide +kernel, by decide +kernel⟩
theorem ok_whole {f : Addr} {fd : FuncData} (F : Fun K "is_whole" "is_whole" sWhole f fd) (mis : mg "isinstance" = none) (mi : mg "int" = none) (mb : mg "bool" = none) : FnOk P w K mg base CX0 1 f fd ["value", "many"] spWhole := by
  refine F.ok scWhole (fun vs H Q E h => ?_) (fun cdv A outer s H vs Q E hr h => ?_)
  · obtain ⟨i, m, rfl, _⟩ := h
    rfl
  · obtain ⟨i, m, rfl, q⟩ := h
    refine ⟨_, pss_one (ps_ret (pe_and (pe_callB call_isi (by rfl) mis (by decide +kernel) (pa_cons (pv 0) (pa_cons (pe_bltn (v := .ty "int") (u := .type "int") (by rfl) mi (by decide +kernel) rfl) pa_nil)))
      (pe_and (pe_not (pe_callB call_isi (by rfl) mis (by decide +kernel) (pa_cons (pv 0) (pa_cons (pe_bltn (v := .ty "bool") (u := .type "bool") (by rfl) mb (by decide +kernel) rfl) pa_nil))))
        (pe_one (pe_chain op_le op_lt pe_int (pv 0) (pv 1)))))), ?_⟩
    refine ⟨_, rfl, _, _, _, _, _, rfl, .ty "int", .base (.int i), kit_ty (by decide +kernel), true, rfl, ?_⟩
    refine ite_tt ?_
    refine ⟨_, rfl, _, _, _, _, _, rfl, .ty "bool", .base (.int i), kit_ty (by decide +kernel), false, rfl, true, rfl, ?_⟩
    refine ite_tt ?_
    refine ⟨_, rfl, _, _, rfl, rfl, _, rfl, ?_⟩
    by_cases h0 : 0 ≤ i
    · rw [decide_eq_true h0, Bool.true_and] at q
      rw [decide_eq_true h0]
      refine ite_tt ?_
      exact ⟨_, rfl, _, _, rfl, rfl, q⟩
    · rw [decide_eq_false h0, Bool.false_and] at q
      rw [decide_eq_false h0]
      exact ite_ff q
/-! ### is_set -/
theorem same_tup {H H' : Hp} {a : Addr} {xs : List V} (e : Same H H') (h : SqT K H a xs) : SqT K H' a xs := by
  rcases h with (h | ⟨o, h⟩) | h
  · exact .inl (.inl (e _ _ h))
  · exact .inl (.inr ⟨o, e _ _ h⟩)
  · exact .inr h
theorem tyx_tup {H : Hp} {a : Addr} {xs : List V} (h : SqT K H a xs) : TyX K H (.ref a) (.type "tuple") := by
  rcases h with (h | ⟨o, h⟩) | ⟨o, its, n, h1, h2, _⟩
  · exact .base (.tup h)
  · exact .fTuple h
  · exact .kTuple h1 h2
theorem walk_zipT {a b : Addr} {xs ys : List V} {n : Nat} (hn : n = min xs.length ys.length) : Walk (ItzT K a b) n (fun H => SqT K H a xs ∧ SqT K H b ys) (YPair (fun i => xs[i]?) (fun i => ys[i]?)) := by
  subst hn
  refine ⟨fun i _ hi q => ?_, fun _ q => ⟨xs, ys, q.1, q.2, by omega⟩, fun i H v H' _ q y => ?_⟩
  · have h1 : i < xs.length := by omega
    have h2 : i < ys.length := by omega
    exact ⟨xs, ys, xs[i], ys[i], q.1, q.2, by simp [h1], by simp [h2]⟩
  · obtain ⟨T, x, z, h1, h2, h3, h4, h5⟩ := y
    exact ⟨T, x, z, h1, h2, h3, h4 xs q.1, h5 ys q.2⟩
/-- the ties of a star: each from 0 to m - 1, each below the next -/
def inB (m i : Int) : Bool := decide (0 ≤ i) && decide (i < m)
def ltB (ns : List Int) (i : Nat) : Bool := match ns[i]?, ns[i + 1]? with
  | some x, some y => decide (x < y)
  | _, _ => true
def setB (m : Int) (ns : List Int) : Bool := ns.all (inB m) && ((List.range (ns.length - 1)).map (ltB ns)).all id
theorem cut1 {ns : List Int} (h : ns ≠ []) : cutV (ns.map V.int) (some 1) none = (ns.drop 1).map V.int := by
  have hl : 1 ≤ ns.length := by cases ns with | nil => exact absurd rfl h | cons _ _ => simp
  have e := HT.sIx_nat (ns.map V.int).length 0 1
  unfold cutV
  rw [show (some (1 : Int)) = some ((1 : Nat) : Int) from rfl, e, HT.sIx_none, List.length_map, Nat.min_eq_left hl, List.map_drop, List.take_of_length_le]
  rw [List.length_drop, List.length_map]
  omega
def spSet (K : PySem.W.Frag) : Sp := fun vs H Q _ => ∃ (a : Addr) (ns : List Int) (m : Int), vs = [.ref a, .int m] ∧ SqT K H a (ns.map V.int) ∧ ns ≠ [] ∧ ns.length ≤ 100 ∧ ∀ H', Same H H' → Q (.bl (setB m ns)) H'
theorem scSet : FnScope ["value", "many", "tie", "above"] ["value", "many"] (defScope sSet) := ⟨rfl, rfl, rfl, by decide +kernel, rfl, by decide +kernel, by decide +kernel⟩
theorem ok_set {f fW : Addr} {fd fdW : FuncData} (F : Fun K "is_set" "is_set" sSet f fd) (GW : FnOk P w K mg base CX0 1 fW fdW ["value", "many"] spWhole) (gW : mg "is_whole" = some (.ref fW)) (kW : PySem.W.keepIn K (.ref fW) = true) (bW : Binds K fdW ["value", "many"] [])
    (mis : mg "isinstance" = none) (mt : mg "tuple" = none) (mal : mg "all" = none) (mz : mg "zip" = none) : FnOk P w K mg base CX0 2 f fd ["value", "many"] (spSet K) := by
  refine F.ok scSet (fun vs H Q E h => ?_) (fun cdv A outer s H vs Q E hr h => ?_)
  · obtain ⟨a, ns, m, rfl, _⟩ := h
    rfl
  · obtain ⟨a, ns, m, rfl, hS, hne, hl, k⟩ := h
    refine ⟨_, pss_cons (ps_if (pt_not (pt_val (pe_callB call_isi (by rfl) mis (by decide +kernel) (pa_cons (pv 0) (pa_cons (pe_bltn (v := .ty "tuple") (u := .type "tuple") (by rfl) mt (by decide +kernel) rfl) pa_nil))))) (pss_one (ps_ret pe_bl)) pss_nil)
      (pss_cons (ps_if (pt_not (pt_val (pe_callB (id := "all") (cr_all rfl) (by rfl) mal (by decide +kernel) (pa_cons (pe_lc (own := [("tie", 2)]) (g := gName 2) (tt := tYes) (by rfl) scSet.nd (pi_tup (pv 0)) (blkOk_by (own := [("tie", 2)]) (N := ["value", "many", "tie", "above"]) (sc := defScope sSet) (by decide +kernel))
          (fun _ _ _ _ _ => pg_name (i := 2) scSet.nd rfl (Or.inl rfl)) (fun _ _ _ _ _ => pts_nil) (fun _ _ _ _ _ => pe_call GW hr (by rfl) gW kW bW .nil pass0 (pa_cons (pv 2) (pa_cons (pv 1) pa_nil)))) pa_nil)))) (pss_one (ps_ret pe_bl)) pss_nil)
      (pss_one (ps_ret (pe_callB (id := "all") (cr_all rfl) (by rfl) mal (by decide +kernel) (pa_cons (pe_lc (own := [("tie", 2), ("above", 3)]) (g := gTup K 2 (gCons (gName 2) (gCons (gName 3) gNil))) (tt := tYes) (by rfl) scSet.nd (pi_zipA (by rfl) mz (pa_cons (pv 0) (pa_cons (pe_slice sl_tup (pv 0) (po_some pe_int) po_none) pa_nil))) (blkOk_by (own := [("tie", 2), ("above", 3)]) (N := ["value", "many", "tie", "above"]) (sc := defScope sSet) (by decide +kernel))
          (fun _ _ _ _ _ => pg_tup rfl (pgs_cons (pg_name (i := 2) scSet.nd rfl (Or.inl rfl)) (pgs_cons (pg_name (i := 3) scSet.nd rfl (Or.inl rfl)) pgs_nil))) (fun _ _ _ _ _ => pts_nil) (fun _ _ _ _ _ => pe_cmpR op_lt (pv 2) (pv 3) (nomark _))) pa_nil))))), ?_⟩
    refine ⟨_, rfl, _, _, _, _, _, rfl, .ty "tuple", tyx_tup hS, kit_ty (by decide +kernel), true, rfl, ite_ff ?_⟩
    -- all([is_whole(tie, many) for tie in value])
    refine ⟨_, rfl, a, rfl, ⟨_, hS⟩, fun D nD => ?_⟩
    refine lc_tup (K := K) (a := a) (xs := ns.map V.int) (fun i H' => Same H H' ∧ H' D = some (.lst ((ns.take i).map fun t => V.bl (inB m t)))) ⟨same_new nD, upd_same⟩ (fun i H' _ hp => same_tup hp.1 (hS)) (fun i x H' hx hp => ?_) (fun H' hp => ?_)
    · obtain ⟨sm, eD⟩ := hp
      obtain ⟨t, rfl, ht⟩ : ∃ t, x = V.int t ∧ ns[i]? = some t := by
        rw [List.getElem?_map] at hx
        cases e : ns[i]? with
        | none => rw [e] at hx; cases hx
        | some u => rw [e] at hx; exact ⟨u, (Option.some.inj hx).symm, rfl⟩
      have hi := (List.getElem?_eq_some_iff.mp ht).1
      refine ⟨rfl, tyes_ite ?_⟩
      refine ⟨_, rfl, _, rfl, t, m, rfl, ?_⟩
      refine ⟨_, eD, ?_, fun b o e => ?_, ?_⟩
      · rw [List.length_map, List.length_take]; exact small1000 (by omega)
      · rw [upd_ne (ne_of_none e nD)]
        exact sm b o e
      · rw [upd_same, List.take_add_one, ht, List.map_append]
        rfl
    obtain ⟨s1, e1⟩ := hp
    rw [List.length_map, List.take_length] at e1
    refine ⟨D, ns.map (inB m), rfl, SqL.of (by rw [List.map_map]; exact e1), _, rfl, ?_⟩
    have eb : (ns.map (inB m)).all id = ns.all (inB m) := by rw [List.all_map]; rfl
    rw [eb]
    cases hb : ns.all (inB m) with
    | false =>
      have : setB m ns = false := by unfold setB; rw [hb, Bool.false_and]
      rw [this] at k
      exact ite_tt (k _ s1)
    | true =>
      have eS : setB m ns = ((List.range (ns.length - 1)).map (ltB ns)).all id := by unfold setB; rw [hb, Bool.true_and]
      rw [eS] at k
      refine ite_ff ?_
      -- all([tie < above for tie, above in zip(value, value[1:])])
      refine ⟨_, rfl, _, rfl, 1, rfl, a, _, rfl, same_tup s1 (hS), ?_, fun p np => ?_⟩
      · intro z
        have hl1 : 1 ≤ ns.length := by cases ns with | nil => exact absurd rfl hne | cons _ _ => simp
        have e := HT.sIx_nat (ns.map V.int).length 0 1
        rw [show (some (1 : Int)) = some ((1 : Nat) : Int) from rfl, e, List.length_map, Nat.min_eq_left hl1] at z
        exact absurd z.1 (by decide)
      rw [cut1 hne]
      have s2 := s1.trans (same_new (o := .tup ((ns.drop 1).map V.int)) np)
      have hp : SqT K (upd H' p (.tup ((ns.drop 1).map V.int))) p ((ns.drop 1).map V.int) := SqT.of upd_same
      generalize upd H' p (.tup ((ns.drop 1).map V.int)) = H2 at s2 hp ⊢
      refine ⟨a, p, _, _, rfl, .inr ⟨same_tup s2 (hS), hp, fun D2 nD2 => ?_⟩⟩
      refine lc_it (walk_zipT (n := ns.length - 1) (xs := ns.map V.int) (ys := (ns.drop 1).map V.int) (by rw [List.length_map, List.length_map, List.length_drop]; omega)) (fun i H' => Same H2 H' ∧ H' D2 = some (.lst ((List.range i).map fun j => V.bl (ltB ns j)))) ⟨same_new nD2, upd_same⟩ (fun i H' _ q => ⟨same_tup q.1 ((same_tup s2 hS)), same_tup q.1 (hp)⟩) (fun i x H3 H4 hi q hy => ?_) (fun H3 q => ?_)
      · obtain ⟨sm, eD⟩ := q
        obtain ⟨T, x1, x2, rfl, nT, rfl, f1, f2⟩ := hy
        have g1 : ns[i]? = some ns[i] := List.getElem?_eq_getElem (by omega)
        have g2 : ns[i + 1]? = some ns[i + 1] := List.getElem?_eq_getElem (by omega)
        have f1 : (ns.map V.int)[i]? = some x1 := f1
        have f2 : ((ns.drop 1).map V.int)[i]? = some x2 := f2
        rw [List.getElem?_map, g1] at f1
        rw [List.getElem?_map, List.getElem?_drop, Nat.add_comm 1 i, g2] at f2
        cases f1
        cases f2
        have nDT : D2 ≠ T := ne_of_none eD nT
        refine ⟨T, _, rfl, .inl (.inl upd_same), rfl, _, _, rfl, _, _, rfl, rfl, rfl, tyes_ite ?_⟩
        refine ⟨_, rfl, _, rfl, _, _, rfl, rfl, ?_⟩
        refine ⟨_, by rw [upd_ne nDT]; exact eD, ?_, fun b o e => ?_, ?_⟩
        · rw [List.length_map, List.length_range]; exact small1000 (by omega)
        · rw [upd_ne (ne_of_none e nD2), upd_ne (ne_of_none (sm _ _ e) nT)]
          exact sm b o e
        · rw [upd_same, List.range_succ, List.map_append]
          have : ltB ns i = decide (ns[i] < ns[i + 1]) := by unfold ltB; rw [g1, g2]
          show some (HO.lst (_ ++ [V.bl (decide (ns[i] < ns[i + 1]))])) = some (HO.lst (_ ++ [V.bl (ltB ns i)]))
          rw [this]
      obtain ⟨s3, e3⟩ := q
      refine ⟨D2, (List.range (ns.length - 1)).map (ltB ns), rfl, SqL.of (by rw [List.map_map]; exact e3), ?_⟩
      exact k _ (s2.trans s3)
end
end Sg

/-! enumerate(t), t a tuple: its making, its turns. -/
namespace Sg
open PySem PySem.Spec PyProof.Rows L2 RZ
set_option maxHeartbeats 4000000 in
theorem meets_enumB1 {v : Value} {o : Obj} {H : Heap → Prop} (B : Begins v o H) :
    Meets (Builtin.«enumerate.__new__» ⟨[.type "enumerate", v], []⟩) (fun _ R s => H s.heap ∧
      R (.ok (.ret (.ref (s.heap.push o).objs.size))) { s with heap := (s.heap.push o).push { cls := .type "enumerate", data := .fields #[.none, .bool false, .ref s.heap.objs.size, rawInt 0, .none, .none] } }) :=
  .of_wp fun prog w A R s h => by
    obtain ⟨hp, g, d, tk, os⟩ := s; obtain ⟨h1, h⟩ := h
    have hsub := sub_enumerate
    have q1 : ∀ {A' : Around} {E : Value → Shared → Prop} {Q : Value → Shared → Prop}, Q (.ref hp.objs.size) ⟨hp.push o, g, d, tk, os⟩ → wpAny (model prog w) A' (pyIter v) Q E ⟨hp, g, d, tk, os⟩ :=
      fun q => B.iter prog w _ _ ⟨hp, g, d, tk, os⟩ _ h1 q
    wp_walk using q1
    refine wpAny_stack_any fun st => wpAny_pure ?_
    split
    · rename_i c _ _ _ _ _
      cases (c == Value.type "enumerate")
      · wp_walk using q1
        exact ⟨_, rfl, h⟩
      · wp_walk using q1
        exact ⟨_, rfl, h⟩
    · wp_walk using q1
      exact ⟨_, rfl, h⟩
theorem call_enumT {prog : Program} {w : World} {A : Around} {E : Value → Shared → Prop} {s : Shared} {l : Addr} {items : Array Value} {Q : Value → Shared → Prop} (hL : s.heap.IsTuple l items)
    (h : ∀ h', IsEnum h' (s.heap.objs.size + 1) s.heap.objs.size 0 .none → h'.IsTupleIter s.heap.objs.size l 0 → h'.objs.size = s.heap.objs.size + 2 →
      (∀ b o, s.heap.get? b = some o → h'.get? b = some o) → Q (.ref (s.heap.objs.size + 1)) { s with heap := h' }) :
    wpAny (model prog w) A (call (.type "enumerate") [.ref l]) Q E s := by
  refine callType_new F.called_enumerate (by decide) (F.typeCall_enumerate_1 _) (F.newCall_enumerate_1 _) (fun obj => F.args_object_init_2 obj _) F.entry_enumerate_new
    (meets_enumB1 (begins_tuple l items)) ⟨hL, ?_⟩
  have hz : (s.heap.push { cls := .type "tuple_iterator", data := .fields #[.ref l, .int 0 0] }).objs.size = s.heap.objs.size + 1 := Heap.size_push ..
  show _ ∧ _
  rw [hz]
  have he : IsEnum ((s.heap.push { cls := .type "tuple_iterator", data := .fields #[.ref l, .int 0 0] }).push
      { cls := .type "enumerate", data := .fields #[.none, .bool false, .ref s.heap.objs.size, rawInt 0, .none, .none] }) (s.heap.objs.size + 1) s.heap.objs.size 0 .none := by
    have := Heap.get?_push_size (s.heap.push { cls := .type "tuple_iterator", data := .fields #[.ref l, .int 0 0] })
      (o := { cls := .type "enumerate", data := .fields #[.none, .bool false, .ref s.heap.objs.size, rawInt 0, .none, .none] }) rfl
    rw [hz] at this; exact this
  refine ⟨⟨_, he, rfl⟩, h _ he ⟨_, Heap.get?_push_of_some _ (Heap.get?_push_size _ rfl), rfl, rfl⟩ (by rw [Heap.size_push, hz]) fun b o x => Heap.get?_push_of_some _ (Heap.get?_push_of_some _ x)⟩
/-- the tuple at a, its items in new pairs -/
def IteT (K : PySem.W.Frag) (a : Addr) : It :=
  ⟨fun i H => ∃ (xs : List V) (x : V), SqT K H a xs ∧ xs[i]? = some x, fun i H v H' => ∃ T x, v = .ref T ∧ H T = none ∧ H' = upd H T (.tup [.int (i : Nat), x]) ∧ ∀ xs, SqT K H a xs → xs[i]? = some x, fun i H => ∃ xs : List V, SqT K H a xs ∧ xs.length = i⟩
theorem turn_enumT {P : Program} {w : World} {K : PySem.W.Frag} {elts : List Expr} {kk : Nat} {tpos : Pos} (a e it : Addr) (hai : a ≠ it) (hae : a ≠ e) :
    Turn P w K (.Tuple elts kk tpos) (IteT K a) [e, it] e (fun i h => (∃ old, IsEnum h e it ((i : Nat) : Int) old) ∧ h.IsTupleIter it a i ∧ e ≠ it) where
  mem := by simp
  obj := fun i h st b hb => by
    obtain ⟨⟨old, he⟩, ⟨o, ho, hc, hd⟩, _⟩ := st
    have e' : b = e ∨ b = it := by simpa using hb
    rcases e' with z | z
    · rw [z]; exact ⟨_, he, fun v q => nomatch q⟩
    · rw [z]; exact ⟨o, ho, fun v q => by rw [hd] at q; cases q⟩
  keep := fun i h h' st k => let ⟨⟨old, he⟩, hi, hne⟩ := st; ⟨⟨old, k e (by simp) _ he⟩, hi.at fun o q => k it (by simp) o q, hne⟩
  item := by
    intro X hP hw hK hc i pins s σ H E I hf st hg
    subst hP hw hK
    obtain ⟨⟨old, he⟩, hit, hne⟩ := st
    obtain ⟨xs, x, hq, hx⟩ := hg
    obtain ⟨its, rv, p, hz⟩ := I.tuple hq
    obtain ⟨u, hu, ru⟩ := rv.get hx
    have hel : e < s.heap.objs.size := Heap.lt_size he
    have hil : it < s.heap.objs.size := by obtain ⟨_, q, _⟩ := hit; exact Heap.lt_size q
    have hgu : its.toArray[i]? = some u := by simpa using hu
    have hi : i < its.toArray.size := (Array.getElem?_eq_some_iff.mp hgu).1
    refine wpAny_pyNext_enum_itemD (Draws.tuple (A := X.A.in1) (show X.A.in1.handled = none from I.ok.hd hc) it a hai its.toArray) he ⟨hit, p⟩ hi hne (by simp [hne, Ne.symm hae]) fun x' h' tk hP ho hit' hT hsz hk => ?_
    have ex : x' = u := Option.some.inj (hP.symm.trans hgu)
    subst ex
    refine ⟨_, rfl, wpAny_letOwnedTupleGo_enum (s := { s with heap := h', toks := tk + 1 }) ho fun h'' he' sb => ?_⟩
    have hT2 : h''.get? s.heap.objs.size = some { cls := .type "tuple", data := .seq #[.int i tk, x'] } := (sb.2 _ (Nat.ne_of_gt hel)).trans hT
    have new : ObjOk X.prog X.w (upd H s.heap.objs.size (.tup [.int (i : Nat), x])) h'' s.heap.objs.size (.tup [.int (i : Nat), x]) :=
      ⟨by show 2 ≤ sizeLine; decide, [.int i tk, x'], .cons ⟨_, rfl⟩ (.cons ru .nil), ⟨_, hT2, rfl, _, rfl⟩⟩
    have I1 : Inv X pins σ (upd H s.heap.objs.size (.tup [.int (i : Nat), x])) { s with heap := h'', toks := tk + 1 } :=
      I.turnedNew (ch := [e, it]) (fun b ob hb q => (sb.2 b (fun z => hb (by simp [z]))).trans (hk b ob (fun z => hb (by simp [z])) (fun z => hb (by simp [z])) q)) hf (Nat.le_refl _) new
    refine ⟨.ref s.heap.objs.size, _, I1, rfl, ⟨_, x, rfl, I.hok.fresh (Nat.le_refl _), rfl, fun ys hy => by rw [I.tuple_inj hy hq]; exact hx⟩, ⟨⟨x', ?_⟩, hit'.1.at fun o q => (sb.2 it (Ne.symm hne)).trans q, hne⟩, fun b hb => ?_⟩
    · have e1 : ((i + 1 : Nat) : Int) = (i : Int) + 1 := by omega
      rw [e1]; exact he'
    · have hb' : b < s.heap.objs.size := by
        have e' : b = e ∨ b = it := by simpa using hb
        rcases e' with z | z
        · rw [z]; exact hel
        · rw [z]; exact hil
      rw [upd_ne (Nat.ne_of_lt hb')]
      exact (hf b hb).1
  done := by
    intro X hP hw hK hc i pins s σ H E I hf st hg
    subst hP hw hK
    obtain ⟨⟨old, he⟩, hit, hne⟩ := st
    obtain ⟨xs, hq, hx⟩ := hg
    obtain ⟨its, rv, p, hz⟩ := I.tuple hq
    obtain ⟨f0, f1, f2, f3, f4, f5⟩ := hf it (by simp)
    have hl := rv.length
    have hi : i = its.toArray.size := by rw [← hx, hl]; simp
    rw [hi] at hit he
    exact wpAny_pyNext_enum_endD (Draws.tuple (A := X.A.in1) (show X.A.in1.handled = none from I.ok.hd hc) it a hai its.toArray) he ⟨hit, p⟩ fun h' eb => ⟨rfl, I.turned (t' := s.toks) (fun b o hb q => eb b o hb q) f0 f1 f3 f4 f5⟩
  self := fun A i s Q E st h => let ⟨⟨_, he⟩, _⟩ := st; wpAny_pyIter_enum he h
theorem walk_enumT {K : PySem.W.Frag} {a : Addr} {xs : List V} : Walk (IteT K a) xs.length (fun H => SqT K H a xs) (YPair (fun i => some (.int (i : Nat))) (fun i => xs[i]?)) := by
  refine ⟨fun i H hi q => ⟨xs, xs[i], q, by simp [hi]⟩, fun _ q => ⟨xs, q, rfl⟩, fun i H v H' _ q y => ?_⟩
  obtain ⟨T, x, h1, h2, h3, h4⟩ := y
  exact ⟨T, .int (i : Nat), x, h1, h2, h3, rfl, h4 xs q⟩
/-- enumerate of a list or a tuple -/
def iEnumA (K : PySem.W.Frag) (ta : TA) : TI := fun σ H R => ta σ H fun vs H1 => ∃ a xs, vs = [.ref a] ∧ ((SqL K H1 a xs ∧ R (Ite K a) H1) ∨ (SqT K H1 a xs ∧ R (IteT K a) H1))
theorem pi_enumA {X : Cx} {e : Expr} {ta : TA} {p pos tpos : Pos} {elts : List Expr} {kk : Nat} (hg : Gl X "enumerate") (hm : X.mg "enumerate" = none) (ha : PA X [e] ta) (hs : starEach [e] X.env = [(false, eval e X.env)] := by rfl) :
    PI X (.Tuple elts kk tpos) (.Call (.Name "enumerate" p) [e] [] pos) (iEnumA X.K ta) := by
  refine ⟨fun pins s σ H R I h => ?_⟩
  refine Call_ (ld_blt I hg hm boot_enumerate (PyProof.Rows.callWith_type1 (thn (ha.run pos pins s σ H _ I h) fun us s1 ⟨vs, H1, I1, r1, q1⟩ => ?_) hs rfl))
  obtain ⟨a, xs, ex, q1⟩ := q1
  subst ex
  cases r1 with
  | cons r rr =>
    cases rr
    cases r
    have fresh2 : ∀ b, b ∈ [s1.heap.objs.size + 1, s1.heap.objs.size] → FpOk X pins H1 b := fun b hb => by
      have e' : b = s1.heap.objs.size + 1 ∨ b = s1.heap.objs.size := by simpa using hb
      have hle : s1.heap.objs.size ≤ b := by
        rcases e' with z | z
        · rw [z]; exact Nat.le_add_right _ _
        · rw [z]; exact Nat.le_refl _
      exact I1.fpOk hle (I1.hok.fresh hle)
    rcases q1 with ⟨hq, q⟩ | ⟨hq, q⟩
    · obtain ⟨its, rv, p', hz⟩ := I1.list hq
      refine call_enumerate_list p'.isList fun h' he hit hsz hk => wpAny_pyIter_enum he ?_
      have I2 : Inv X pins σ H1 { s1 with heap := h' } := I1.kept (t' := s1.toks) hk
      exact ⟨s1.heap.objs.size + 1, [s1.heap.objs.size + 1, s1.heap.objs.size], _, _, H1, rfl, I2, turn_enum a (s1.heap.objs.size + 1) s1.heap.objs.size, ⟨⟨.none, he⟩, hit, Nat.succ_ne_self _⟩, fresh2, q⟩
    · obtain ⟨its, rv, p', hz⟩ := I1.tuple hq
      obtain ⟨o1, ho1, _⟩ := id p'
      have hlt : a < s1.heap.objs.size := Heap.lt_size ho1
      refine call_enumT p' fun h' he hit hsz hk => wpAny_pyIter_enum he ?_
      have I2 : Inv X pins σ H1 { s1 with heap := h' } := I1.kept (t' := s1.toks) hk
      exact ⟨s1.heap.objs.size + 1, [s1.heap.objs.size + 1, s1.heap.objs.size], _, _, H1, rfl, I2, turn_enumT a (s1.heap.objs.size + 1) s1.heap.objs.size (Nat.ne_of_lt hlt) (Nat.ne_of_lt (Nat.lt_succ_of_lt hlt)), ⟨⟨.none, he⟩, hit, Nat.succ_ne_self _⟩, fresh2, q⟩
end Sg

/-! check_stars where the stars are right. -/
namespace Sg
open PySem PySem.Spec PyProof.Rows L2 RZ
abbrev sCheck : Stmt := topS 20
section
variable {X : Cx}
/-- xs[i], by values, as in xs[i] += e -/
def rGetL (K : PySem.W.Frag) : V → V → Hp → VK → Prop := fun o i H Q => ∃ p xs k v, o = .ref p ∧ i = .int k ∧ SqL K H p xs ∧ 0 ≤ k ∧ atI xs k = some v ∧ Q v H
theorem get_list : PGet X (rGetL X.K) := by
  intro pins s σ H o i ov iv Q I ro ri h
  obtain ⟨p, xs, k, v, rfl, rfl, hq, h0, he, q⟩ := h
  cases ro
  obtain ⟨t, rfl⟩ := ri
  obtain ⟨its, r, pl, hz⟩ := I.list hq
  obtain ⟨j, h1, h2, h3, h4, h5⟩ := atI_get he
  obtain ⟨w, ew, rw'⟩ := r.get h2
  have hl := r.length
  have hn := line63
  have hj : k.toNat = j := by
    rw [seqIndex_of h0 h5] at h1
    exact Option.some.inj h1
  exact getItem_listL pl.isList h0 (by omega) (by rw [hj]; simpa using ew) ⟨v, H, I, rw', q⟩
end
section
variable {P : Program} {w : World} {K : PySem.W.Frag} {mg : Str → Option Value} {base : Heap}
theorem tyx_lst {H : Hp} {a : Addr} {xs : List V} (h : SqL K H a xs) : TyX K H (.ref a) (.type "list") := by
  rcases h with (h | ⟨o, h⟩) | ⟨o, its, n, h1, h2, _⟩
  · exact .base (.lst h)
  · exact .base (.frz h)
  · exact .kList h1 h2
/-- a list or a tuple -/
def SqA (K : PySem.W.Frag) (H : Hp) (a : Addr) (xs : List V) : Prop := SqL K H a xs ∨ SqT K H a xs
theorem SqA.same {H H' : Hp} {a : Addr} {xs : List V} (h : SqA K H a xs) (s : Same H H') : SqA K H' a xs := h.elim (fun h => .inl (s.seq h)) fun h => .inr (same_tup s h)
theorem enum_var {σ : L2.St} {Hb H : Hp} {R : It → Hp → Prop} {i : Nat} {a : Addr} {xs : List V} (hσ : σ[i]? = some (some (.ref a))) (h : SqA K Hb a xs) (s : Same Hb H)
    (k : ∀ (J : It) (G : Hp → Prop), Walk J xs.length G (YPair (fun i => some (.int (i : Nat))) (fun i => xs[i]?)) → (∀ H', Same Hb H' → G H') → R J H) : iEnumA K (tCons (tVar i) tNil) σ H R := by
  refine ⟨_, hσ, a, xs, rfl, ?_⟩
  rcases h with h | h
  · exact .inl ⟨s.seq h, k _ _ walk_enum fun H' s => s.seq h⟩
  · exact .inr ⟨same_tup s h, k _ _ walk_enumT fun H' s => same_tup s h⟩
/-- stars that stand: each a tuple of its ties -/
def Stars (K : PySem.W.Frag) (H : Hp) (xs : List V) (ss : List (List Int)) : Prop := xs.length = ss.length ∧ ∀ (i : Nat) (s : List Int), ss[i]? = some s → ∃ a : Addr, xs[i]? = some (V.ref a) ∧ SqT K H a (s.map V.int)
theorem Stars.same {H H' : Hp} {xs : List V} {ss : List (List Int)} (h : Stars K H xs ss) (s : Same H H') : Stars K H' xs ss := ⟨h.1, fun i t e => let ⟨a, h1, h2⟩ := h.2 i t e; ⟨a, h1, same_tup s h2⟩⟩
/-- how often each of the twelve ties stands in l -/
def cntOf (l : List Int) : List Int := (List.range 12).map fun (t : Nat) => ((l.count (t : Int) : Nat) : Int)
theorem cntOf_len (l : List Int) : (cntOf l).length = 12 := by unfold cntOf; rw [List.length_map, List.length_range]
theorem cntOf_get (l : List Int) {t : Nat} (h : t < 12) : (cntOf l)[t]? = some ((l.count (t : Int) : Nat) : Int) := by
  unfold cntOf
  rw [List.getElem?_map, List.getElem?_range h]; rfl
theorem cntOf_add (l : List Int) {t : Nat} (h : t < 12) : cntOf (l ++ [(t : Int)]) = (cntOf l).set t (((l.count (t : Int) : Nat) : Int) + 1) := by
  apply List.ext_getElem?
  intro j
  by_cases hj : j < 12
  · rw [cntOf_get _ hj, List.getElem?_set, cntOf_len, List.count_append, List.count_singleton]
    by_cases e : t = j
    · subst e
      rw [if_pos rfl, if_pos h]
      simp
    · rw [if_neg e, cntOf_get _ hj]
      have : ((t : Int) == (j : Int)) = false := by simp; omega
      rw [this]; simp
  · rw [List.getElem?_eq_none (by rw [cntOf_len]; omega), List.getElem?_eq_none (by rw [List.length_set, cntOf_len]; omega)]
/-- the stars of a web of k ties -/
structure Good (ss : List (List Int)) (k : Nat) : Prop where
  n : ss.length ≤ 100
  ne : ∀ s ∈ ss, s ≠ []
  st : ∀ s ∈ ss, setB 12 s = true
  le : ∀ (i : Nat) (x y : List Int), ss[i]? = some x → ss[i + 1]? = some y → HT.lexLt y x = false
  two : ∀ t : Int, ss.flatten.count t ≤ 2
  k12 : k ≤ 12
  all : ∀ t : Nat, t < 12 → (0 < ss.flatten.count (t : Int) ↔ t < k)
theorem ite_cf {c : Bool} {A B : Prop} (h : c = false) (q : B) : if c = true then A else B := by rw [h]; exact ite_ff q
theorem kit2 {H : Hp} {a : Addr} {xs : List V} (h : SqA K H a xs) : ∃ t, TyX K H (.ref a) t ∧ PySem.W.kitAny K t [.type "list", .type "tuple"] = some true := by
  rcases h with h | h
  · exact ⟨_, tyx_lst h, kitAny_cons (b := true) (kit_ty (by decide +kernel)) (fun z => nomatch z) fun _ => rfl⟩
  · exact ⟨_, tyx_tup h, kitAny_cons (b := false) (kit_ty (by decide +kernel)) (fun _ => kitAny_cons (b := true) (kit_ty (by decide +kernel)) (fun z => nomatch z) fun _ => rfl) fun _ => rfl⟩
theorem tup_upd {H : Hp} {a D : Addr} {xs l : List V} {o : HO} (h : SqT K H a xs) (hD : H D = some (.lst l)) : SqT K (upd H D o) a xs := by
  have ne : ∀ o', H a = some o' → o' ≠ .lst l → a ≠ D := fun o' e z q => by
    rw [q, hD] at e
    exact z (Option.some.inj e).symm
  rcases h with (h | ⟨o', h⟩) | h
  · exact .inl (.inl (by rw [upd_ne (ne _ h (fun z => nomatch z))]; exact h))
  · exact .inl (.inr ⟨o', by rw [upd_ne (ne _ h (fun z => nomatch z))]; exact h⟩)
  · exact .inr h
theorem same_upd {H H' : Hp} {D : Addr} {o : HO} (s : Same H H') (n : H D = none) : Same H (upd H' D o) := fun b x e => by
  rw [upd_ne (ne_of_none e n)]
  exact s b x e
/-- the star ahead of the i-th -/
def prev (ss : List (List Int)) : Nat → List Int
  | 0 => []
  | i + 1 => (ss[i]?).getD []
theorem prev_le {ss : List (List Int)} {k i : Nat} (h : Good ss k) {s : List Int} (e : ss[i]? = some s) (hne : s ≠ []) : HT.lexLt s (prev ss i) = false := by
  cases i with
  | zero =>
    cases s with
    | nil => exact absurd rfl hne
    | cons _ _ => rfl
  | succ j =>
    have hj : j < ss.length := by have := (List.getElem?_eq_some_iff.mp e).1; omega
    have g : ss[j]? = some ss[j] := List.getElem?_eq_getElem hj
    show HT.lexLt s ((ss[j]?).getD []) = false
    rw [g]
    exact h.le j _ _ g e
theorem pre_count {ss : List (List Int)} {i j : Nat} {s : List Int} {t : Int} (e : ss[i]? = some s) (f : s[j]? = some t) : ((ss.take i).flatten ++ s.take j).count t + 1 ≤ ss.flatten.count t := by
  have hi := (List.getElem?_eq_some_iff.mp e).1
  have hj := (List.getElem?_eq_some_iff.mp f).1
  have e1 : ss = ss.take i ++ (s :: ss.drop (i + 1)) := by
    have := List.take_append_drop i ss
    rw [List.drop_eq_getElem_cons hi, (List.getElem?_eq_some_iff.mp e).2] at this
    exact this.symm
  have e2 : s = s.take j ++ (t :: s.drop (j + 1)) := by
    have := List.take_append_drop j s
    rw [List.drop_eq_getElem_cons hj, (List.getElem?_eq_some_iff.mp f).2] at this
    exact this.symm
  have c1 : ss.flatten.count t = (ss.take i).flatten.count t + (s.count t + (ss.drop (i + 1)).flatten.count t) := by
    conv => lhs; rw [e1]
    rw [List.flatten_append, List.flatten_cons, List.count_append, List.count_append]
  have c2 : s.count t = (s.take j).count t + ((s.drop (j + 1)).count t + 1) := by
    conv => lhs; rw [e2]
    rw [List.count_append, List.count_cons_self]
  rw [List.count_append, c1, c2]
  omega
theorem flat_take {ss : List (List Int)} {i : Nat} {s : List Int} (e : ss[i]? = some s) : (ss.take (i + 1)).flatten = (ss.take i).flatten ++ s := by
  rw [List.take_add_one, e, List.flatten_append]
  simp
theorem zeros {ss : List (List Int)} {k : Nat} (h : Good ss k) : (12 : Int) - (((cntOf ss.flatten).count 0 : Nat) : Int) = (k : Int) := by
  have e : (cntOf ss.flatten).count 0 = (List.range 12).countP fun t => !decide (t < k) := by
    unfold cntOf
    rw [List.count_eq_countP, List.countP_map]
    apply List.countP_congr
    intro t ht
    have ht := List.mem_range.mp ht
    have := h.all t ht
    simp only [Function.comp, beq_iff_eq, Bool.not_eq_true', decide_eq_false_iff_not]
    omega
  rw [e]
  have hk := h.k12
  have : ∀ k, k ≤ 12 → (List.range 12).countP (fun t => !decide (t < k)) = 12 - k := by decide
  rw [this k hk]
  omega
theorem none_zero {ss : List (List Int)} {k : Nat} (h : Good ss k) : inV (.int 0) (cutV ((cntOf ss.flatten).map V.int) none (some (k : Int))) = false := by
  unfold cutV
  rw [HT.sIx_none, HT.sIx_nat, List.length_map, cntOf_len, Nat.min_eq_left h.k12, List.drop_zero, Nat.sub_zero]
  unfold inV
  rw [List.any_eq_false]
  intro y hy
  obtain ⟨j, hj, rfl⟩ := List.mem_iff_getElem.mp hy
  have hjk : j < k := by rw [List.length_take] at hj; omega
  have hj12 : j < 12 := by have := h.k12; omega
  have g := cntOf_get ss.flatten hj12
  have gl : j < (cntOf ss.flatten).length := by rw [cntOf_len]; exact hj12
  rw [List.getElem_take, List.getElem_map]
  rw [List.getElem?_eq_getElem gl] at g
  rw [Option.some.inj g]
  have := (h.all j hj12).mpr hjk
  show ¬ ((((ss.flatten.count (j : Int) : Nat) : Int) == 0) = true)
  simp only [beq_iff_eq]
  omega
theorem setB_mem {s : List Int} (h : setB 12 s = true) {t : Int} (ht : t ∈ s) : 0 ≤ t ∧ t < 12 := by
  unfold setB at h
  rw [Bool.and_eq_true] at h
  have := List.all_eq_true.mp h.1 t ht
  unfold inB at this
  simpa using this
def spCheck (K : PySem.W.Frag) : Sp := fun vs H Q _ => ∃ (a : Addr) (xs : List V) (ss : List (List Int)) (k : Nat), vs = [.ref a] ∧ SqA K H a xs ∧ Stars K H xs ss ∧ Good ss k ∧ (∀ s ∈ ss, s.length ≤ 100) ∧ ∀ H', Same H H' → Q .non H'
theorem scCheck : FnScope ["stars", "counts", "before", "place", "star", "tie", "many"] ["stars"] (defScope sCheck) := ⟨rfl, rfl, rfl, by decide +kernel, rfl, by decide +kernel, by decide +kernel⟩
theorem ok_check {f fS : Addr} {fd fdS : FuncData} {tk : Tok} (F : Fun K "check_stars" "check_stars" sCheck f fd) (GS : FnOk P w K mg base CX0 2 fS fdS ["value", "many"] (spSet K)) (gS : mg "is_set" = some (.ref fS)) (kS : PySem.W.keepIn K (.ref fS) = true) (bS : Binds K fdS ["value", "many"] [])
    (gM : mg "MOST_TIES" = some (.int 12 tk)) (mis : mg "isinstance" = none) (mli : mg "list" = none) (mt : mg "tuple" = none) (men : mg "enumerate" = none) (mle : mg "len" = none) : FnOk P w K mg base CX0 3 f fd ["stars"] (spCheck K) := by
  refine F.ok scCheck (fun vs H Q E h => ?_) (fun cdv A outer s H vs Q E hr h => ?_)
  · obtain ⟨a, xs, ss, k, rfl, _⟩ := h
    rfl
  · obtain ⟨a, xs, ss, k, rfl, hS, hX, hG, hL, q⟩ := h
    refine ⟨_, pss_cons (ps_if (pt_not (pt_val (pe_callB call_isiT (by rfl) mis (by decide +kernel) (pa_cons (pv 0) (pa_cons (pe_tup (pa_cons (pe_bltn (v := .ty "list") (u := .type "list") (by rfl) mli (by decide +kernel) rfl) (pa_cons (pe_bltn (v := .ty "tuple") (u := .type "tuple") (by rfl) mt (by decide +kernel) rfl) pa_nil))) pa_nil))))) (pss_one ps_never) pss_nil)
      (pss_cons (ps_set (i := 1) scCheck.nd rfl (.inl rfl) (pe_op op_rep (pe_lst (pa_cons pe_int pa_nil)) (pe_glob (v := .int 12) (by rfl) gM ⟨tk, rfl⟩)))
      (pss_cons (ps_set (i := 2) scCheck.nd rfl (.inl rfl) (pe_tup pa_nil))
      (pss_cons (ps_for PassesOwn.never rfl (pi_enumA (by rfl) men (pa_cons (pv 0) pa_nil)) (pg_tup rfl (pgs_cons (pg_name (i := 3) scCheck.nd rfl (.inl rfl)) (pgs_cons (pg_name (i := 4) scCheck.nd rfl (.inl rfl)) pgs_nil)))
        (pss_cons (ps_if (PW.pt (pw_or (pt_not (pt_val (pe_call GS hr (by rfl) gS kS bS .nil pass0 (pa_cons (pv 4) (pa_cons (pe_glob (v := .int 12) (by rfl) gM ⟨tk, rfl⟩) pa_nil)))))
            (pw_or (pt_cmpR op_eq (pe_callB call_len_seq (by rfl) mle PySem.boot_len (pa_cons (pv 4) pa_nil)) pe_int (nomark _)) (pw_or1 (pt_cmpR (op_ltT hr.units0) (pv 4) (pv 2) (nomark _)))))) (pss_one ps_never) pss_nil)
        (pss_cons (ps_for PassesOwn.never rfl (pi_tup (pv 4)) (pg_name (i := 5) scCheck.nd rfl (.inl rfl))
          (pss_cons (ps_if (pt_cmpR op_eq (pe_ix ix_list (pv 1) (pv 5) (fun _ _ => rfl)) pe_int (nomark _)) (pss_one ps_never) pss_nil)
          (pss_one (ps_augS (pv 1) (pv 5) get_list pe_int ip_add set_list))))
        (pss_one (ps_set (i := 2) scCheck.nd rfl (.inl rfl) (pv 4))))))
      (pss_cons (ps_set (i := 6) scCheck.nd rfl (.inl rfl) (pe_op op_sub (pe_glob (v := .int 12) (by rfl) gM ⟨tk, rfl⟩) (pe_bm PySem.F.plainAttrs_list PySem.F.slot_list_count PySem.F.type_list_count mt_lcount (pv 1) (pa_cons pe_int pa_nil))))
      (pss_one (ps_if (pt_cmpR op_in_seq pe_int (pe_slice sl_list (pv 1) po_none (po_some (pv 6))) (by rfl)) (pss_one ps_never) pss_nil)))))), ?_⟩
    -- isinstance(stars, (list, tuple))
    refine ⟨_, rfl, by show 2 ≤ sizeLine; decide, fun p np => ?_⟩
    have s0 := same_new (o := .tup [V.ty "list", V.ty "tuple"]) np
    have ep : (upd H p (.tup [V.ty "list", V.ty "tuple"])) p = some (.tup [V.ty "list", V.ty "tuple"]) := upd_same
    generalize upd H p (.tup [V.ty "list", V.ty "tuple"]) = H0 at s0 ep ⊢
    obtain ⟨t, ty, kt⟩ := kit2 (hS.same s0)
    refine ⟨_, p, _, t, _, true, rfl, ep, .cons (.ty "list") (.cons (.ty "tuple") .nil), ty, kt, true, rfl, ite_ff ?_⟩
    -- counts, before
    refine ⟨by show 1 ≤ sizeLine; decide, fun z nz => ⟨z, 12, [.int 0], rfl, rfl, upd_same, by decide, by decide, by show 12 ≤ sizeLine; decide, fun D nD => ?_⟩⟩
    replace s0 := s0.trans (same_new (o := .lst [V.int 0]) nz)
    generalize upd H0 z (.lst [V.int 0]) = H1 at s0 nD ⊢
    have nHD : H D = none := s0.free nD
    refine ⟨Nat.zero_le _, fun b nb => ?_⟩
    have eD : (upd (upd H1 D (.lst (List.replicate (12 : Int).toNat [V.int 0]).flatten)) b (.tup [])) D = some (.lst ((cntOf []).map V.int)) := by
      rw [upd_ne (ne_of_none upd_same nb), upd_same]
      rfl
    replace s0 := (s0.trans (same_new (o := .lst (List.replicate (12 : Int).toNat [V.int 0]).flatten) nD)).trans (same_new (o := .tup []) nb)
    have eb : SqT K (upd (upd H1 D (.lst (List.replicate (12 : Int).toNat [V.int 0]).flatten)) b (.tup [])) b (([] : List Int).map V.int) := SqT.of upd_same
    generalize upd (upd H1 D (.lst (List.replicate (12 : Int).toNat [V.int 0]).flatten)) b (.tup []) = H2 at s0 eD eb ⊢
    -- for place, star in enumerate(stars)
    show tFor (iEnumA K (tCons (tVar 0) tNil)) _ _ _ [some (.ref a), some (.ref D), some (.ref b), none, none, none, none] H2
    unfold tFor
    refine enum_var (i := 0) rfl hS s0 (fun J G w hJ => ?_)
    refine for_it w (fun i σ H' => ∃ (b : Addr) (y3 y4 y5 : Option V), σ = [some (.ref a), some (.ref D), some (.ref b), y3, y4, y5, none] ∧ Same H H' ∧ H' D = some (.lst ((cntOf (ss.take i).flatten).map V.int)) ∧ SqT K H' b ((prev ss i).map V.int))
      ⟨b, none, none, none, rfl, s0, eD, eb⟩ (fun i σ H' _ hp => ?_) (fun i x σ H3 H4 hi hp hy => ?_) (fun σ H3 hp => ?_)
    · obtain ⟨_, _, _, _, _, s, _⟩ := hp
      exact hJ _ s
    · obtain ⟨b, y3, y4, y5, rfl, s3, e3, b3⟩ := hp
      obtain ⟨T, x1, x2, rfl, nT, rfl, f1, f2⟩ := hy
      cases f1
      have f2 : xs[i]? = some x2 := f2
      rw [hX.1] at hi
      have gs : ss[i]? = some ss[i] := List.getElem?_eq_getElem hi
      generalize ss[i] = st at gs
      obtain ⟨sa, f3, hsa⟩ := hX.2 i st gs
      rw [f3] at f2
      cases f2
      have mem : st ∈ ss := List.mem_of_getElem? gs
      have hne := hG.ne st mem
      have hst := hG.st st mem
      have nDT : D ≠ T := ne_of_none e3 nT
      refine ⟨T, _, rfl, .inl (.inl upd_same), rfl, _, _, rfl, _, _, rfl, rfl, ?_⟩
      replace e3 := same_new (o := .tup [.int (i : Nat), .ref sa]) nT _ _ e3
      replace b3 := same_tup (same_new (o := .tup [.int (i : Nat), .ref sa]) nT) b3
      replace s3 := s3.trans (same_new (o := .tup [.int (i : Nat), .ref sa]) nT)
      generalize upd H3 T (.tup [.int (i : Nat), .ref sa]) = H4 at s3 e3 b3 ⊢
      -- not is_set(star, MOST_TIES) or len(star) == 0 or star < before
      refine ⟨_, rfl, sa, st, 12, rfl, same_tup s3 hsa, hne, hL st mem, fun H5 s5 => ?_⟩
      refine ⟨true, by rw [hst], ite_ff ?_⟩
      replace e3 := s5 _ _ e3
      replace b3 := same_tup s5 b3
      replace s3 := s3.trans s5
      have hsa5 := same_tup s3 hsa
      refine ⟨_, rfl, sa, _, rfl, .inr hsa5, rfl, _, rfl, ite_cf ?_ ?_⟩
      · rw [List.length_map]
        have : st.length ≠ 0 := fun z => hne (List.length_eq_zero_iff.mp z)
        simp only [decide_eq_false_iff_not, V.int.injEq]
        omega
      refine ⟨_, rfl, _, rfl, sa, b, _, _, rfl, rfl, hsa5, b3, _, rfl, ite_cf (prev_le hG gs hne) ?_⟩
      -- for tie in star
      refine ⟨_, rfl, sa, rfl, ⟨_, hsa5⟩, ?_⟩
      refine for_it (walk_tup (xs := st.map V.int)) (fun j σ H' => ∃ (y5 : Option V), σ = [some (.ref a), some (.ref D), some (.ref b), some (.int (i : Nat)), some (.ref sa), y5, none] ∧ Same H H' ∧ H' D = some (.lst ((cntOf ((ss.take i).flatten ++ st.take j)).map V.int)))
        ⟨y5, rfl, s3, by rw [List.take_zero, List.append_nil]; exact e3⟩ (fun j σ H' _ hp => ?_) (fun j x σ H6 H7 hj hp hy => ?_) (fun σ H6 hp => ?_)
      · obtain ⟨_, _, s, _⟩ := hp
        exact same_tup s hsa
      · obtain ⟨y5, rfl, s6, e6⟩ := hp
        obtain ⟨rfl, hx⟩ := hy
        rw [List.getElem?_map] at hx
        cases ht : st[j]? with
        | none => rw [ht] at hx; cases hx
        | some t =>
          rw [ht] at hx
          cases hx
          have mt := List.mem_of_getElem? ht
          obtain ⟨t0, t1⟩ := setB_mem hst mt
          obtain ⟨n, rfl⟩ := Int.eq_ofNat_of_zero_le t0
          have hn : n < 12 := by omega
          have g := cntOf_get ((ss.take i).flatten ++ st.take j) hn
          have hc := pre_count gs ht
          have h2 := hG.two (n : Int)
          refine ⟨_, rfl, _, rfl, D, _, _, _, rfl, rfl, SqL.of e6, atI_nat (map_get g), rfl, _, rfl, ite_cf ?_ ?_⟩
          · simp only [decide_eq_false_iff_not, V.int.injEq]
            omega
          refine ⟨_, rfl, _, rfl, D, _, _, _, rfl, rfl, SqL.of e6, by omega, atI_nat (map_get g), _, _, rfl, rfl, D, _, _, n, rfl, rfl, e6, (by rw [List.length_map, cntOf_len]; exact ixN_nat hn), ?_⟩
          refine ⟨_, rfl, same_upd s6 nHD, ?_⟩
          rw [upd_same, List.take_add_one, ht, ← List.append_assoc]
          show _ = some (HO.lst ((cntOf ((ss.take i).flatten ++ st.take j ++ [((n : Nat) : Int)])).map V.int))
          rw [cntOf_add _ hn, List.map_set]
      · obtain ⟨y5, rfl, s6, e6⟩ := hp
        rw [List.length_map, List.take_length] at e6
        refine ⟨_, rfl, sa, _, _, _, rfl, s6, by rw [flat_take gs]; exact e6, ?_⟩
        show SqT K H6 sa (((ss[i]?).getD []).map V.int)
        rw [gs]
        exact same_tup s6 hsa
    · obtain ⟨b, y3, y4, y5, rfl, s3, e3, b3⟩ := hp
      rw [hX.1, List.take_length] at e3
      -- many = MOST_TIES - counts.count(0)
      refine ⟨_, rfl, .inl ⟨rfl, _, SqL.of e3⟩, D, _, _, rfl, rfl, SqL.of e3, _, _, rfl, rfl, ?_⟩
      -- 0 in counts[:many]
      refine ⟨_, rfl, _, rfl, _, rfl, D, _, rfl, SqL.of e3, fun p2 np2 => ?_⟩
      refine ⟨p2, _, rfl, .inl (SqL.of upd_same), rfl, ?_, _, rfl, ite_cf (by show inV (.int 0) (cutV _ none (some ((12 : Int) - (((cntOf ss.flatten).count 0 : Nat) : Int)))) = false; rw [zeros hG]; exact none_zero hG) ?_⟩
      · rw [List.all_eq_true]
        intro y hy
        unfold cutV at hy
        have hy := List.mem_of_mem_drop (List.mem_of_mem_take hy)
        obtain ⟨c, _, rfl⟩ := List.mem_map.mp hy
        rfl
      exact q _ (s3.trans (same_new np2))
end
end Sg

/-! max(xs, default=d), xs a list of whole numbers. -/
namespace Sg
open PySem PySem.Spec PyProof.Rows L2 PySem.W
section
variable {prog : Program} {w : World} {A : Around} {E : Value → Shared → Prop} {s : Shared} {l : Addr} {its : List Value} {ns : List Int} {Q : Value → Shared → Prop}
theorem max_rawD {d : Value} (hh : A.handled = none) (hl : s.heap.IsList l its.toArray) (hi : IntsAre its ns)
    (h0 : ns = [] → ∀ h' tk, (∀ b o, s.heap.get? b = some o → h'.get? b = some o) → Q d { s with heap := h', toks := tk })
    (h : ∀ h' tk M t', (∀ b o, s.heap.get? b = some o → h'.get? b = some o) → M ∈ ns → (∀ a, a ∈ ns → a ≤ M) → Q (.int M t') { s with heap := h', toks := tk }) : wpAny (model prog w) A (call (.builtin "max") [.ref l] [(Str.ofString "default", d)]) Q E s := by
  obtain ⟨xs, e⟩ := hi.allInts.items
  have hn : numsOf (intItems xs).toList = ns := by rw [← e]; exact hi.numsOf
  rw [nums_intItems] at hn
  subst hn
  rw [e] at hl
  have hsz : (intItems xs).size = xs.size := by simp [intItems]
  refine call_max_walkD (iter_listW (A := A.in1) hh hl fun s₂ e W st hfp hw hk => ?_)
  refine ⟨_, _, _, _, _, _, _, s.heap, _, rfl, W, st, hfp, hw, hk, fun hz s' m => ?_, fun hp => ⟨fun i j vi vj s Q E _ hi hj q => CmpOf.ints_gt (numAt xs) (fun _ _ => intItems_at) i j vi vj s Q E hi hj q, fun v s' hP m => ?_⟩⟩
  · obtain ⟨h', tk, rfl, hk'⟩ := moved_old e rfl m
    exact h0 (List.eq_nil_of_length_eq_zero (by rw [List.length_map, Array.length_toList]; omega)) h' tk hk'
  · obtain ⟨h', tk, rfl, hk'⟩ := moved_old e rfl m
    rw [hsz] at hP hp
    obtain ⟨t, rfl⟩ := intItems_at hP
    obtain ⟨h1, h2⟩ := argBest_gt (numAt xs) (xs.size - 1)
    refine h h' tk _ t hk' ?_ fun a ha => ?_
    · rw [numAt_eq]; exact PySem.getD_mem (by rw [List.length_map, Array.length_toList]; omega)
    · obtain ⟨j, hj, rfl⟩ := mem_getD ha
      rw [List.length_map, Array.length_toList] at hj
      rw [← numAt_eq]; exact h2 j (by omega)
end
def rMaxD (K : PySem.W.Frag) : List V → List V → Hp → VK → Prop := fun vs zs H Q => ∃ (a : Addr) (ns : List Int) (d : V), vs = [V.ref a] ∧ zs = [d] ∧ SqL K H a (ns.map V.int) ∧
  (ns = [] → Q d H) ∧ ∀ m, m ∈ ns → (∀ n, n ∈ ns → n ≤ m) → Q (.int m) H
theorem cr_maxD {X : Cx} (hc : X.calm = true) : CallRK X (.builtin "max") ["default"] (rMaxD X.K) := by
  intro pins s σ H vs zs us ws Q I r rz h
  obtain ⟨a, ns, d, rfl, rfl, hs, h0, h1⟩ := h
  obtain ⟨its, rv, hl, _⟩ := I.list hs
  rw [Vals.ref1 r]
  obtain ⟨u, rfl, ru⟩ := vals1 rz
  exact max_rawD (I.ok.hd hc) hl.isList rv.ints (fun e h' tk hk => ⟨d, H, I.kept hk, ru, h0 e⟩) fun h' tk m t' hk m1 m2 => ⟨.int _, H, I.kept hk, ⟨_, rfl⟩, h1 m m1 m2⟩
end Sg

/-! sides_of where the stars are right. -/
namespace Sg
open PySem PySem.Spec PyProof.Rows L2 RZ
abbrev sSides : Stmt := topS 21
/-- each place with each of its ties, in their order -/
def tagN : Nat → List (List Int) → List (Nat × Int)
  | _, [] => []
  | n, s :: r => s.map (fun t => (n, t)) ++ tagN (n + 1) r
theorem tagN_snoc : ∀ (n : Nat) (l : List (List Int)) (s : List Int), tagN n (l ++ [s]) = tagN n l ++ s.map (fun t => (n + l.length, t))
  | n, [], s => by simp [tagN]
  | n, x :: r, s => by
    show x.map _ ++ tagN (n + 1) (r ++ [s]) = _
    rw [tagN_snoc (n + 1) r s]
    show _ = (x.map _ ++ tagN (n + 1) r) ++ _
    rw [List.append_assoc, List.length_cons, show n + 1 + r.length = n + (r.length + 1) by omega]
theorem tagN_ties : ∀ (n : Nat) (l : List (List Int)), (tagN n l).map (·.2) = l.flatten
  | _, [] => rfl
  | n, s :: r => by
    show (s.map _ ++ tagN (n + 1) r).map _ = _
    rw [List.map_append, tagN_ties (n + 1) r, List.map_map, List.flatten_cons, show ((fun (x : Nat × Int) => x.2) ∘ fun t => (n, t)) = id from rfl, List.map_id]
theorem tagN_take {ss : List (List Int)} {i : Nat} {s : List Int} (e : ss[i]? = some s) : tagN 0 (ss.take (i + 1)) = tagN 0 (ss.take i) ++ s.map (fun t => (i, t)) := by
  have hi := (List.getElem?_eq_some_iff.mp e).1
  rw [List.take_add_one, e]
  show tagN 0 (ss.take i ++ [s]) = _
  rw [tagN_snoc, List.length_take, Nat.min_eq_left (by omega), Nat.zero_add]
/-- the places of the tie t -/
def pls (l : List (Nat × Int)) (t : Int) : List Int := (l.filter (fun p => p.2 == t)).map (fun p => (p.1 : Int))
theorem pls_same (l : List (Nat × Int)) (i : Nat) (t : Int) : pls (l ++ [(i, t)]) t = pls l t ++ [(i : Int)] := by
  unfold pls
  rw [List.filter_append, List.map_append]
  simp
theorem pls_ne (l : List (Nat × Int)) (i : Nat) {t u : Int} (h : t ≠ u) : pls (l ++ [(i, t)]) u = pls l u := by
  unfold pls
  rw [List.filter_append, List.map_append]
  simp [h]
theorem pls_len (l : List (Nat × Int)) (t : Int) : (pls l t).length = (l.map (·.2)).count t := by
  unfold pls
  rw [List.length_map, List.count_eq_countP, List.countP_map, List.countP_eq_length_filter]
  rfl
/-- ties rise within a star -/
theorem setB_lt {s : List Int} (h : setB 12 s = true) : ∀ (j i : Nat) (x y : Int), i < j → s[i]? = some x → s[j]? = some y → x < y
  | 0, _, _, _, z, _, _ => absurd z (Nat.not_lt_zero _)
  | j + 1, i, x, y, hij, hx, hy => by
    have hj := (List.getElem?_eq_some_iff.mp hy).1
    have g : s[j]? = some s[j] := List.getElem?_eq_getElem (by omega)
    unfold setB at h
    rw [Bool.and_eq_true] at h
    have h2 := List.all_eq_true.mp h.2 (ltB s j) (List.mem_map.mpr ⟨j, List.mem_range.mpr (by omega), rfl⟩)
    have h3 : ltB s j = true := h2
    unfold ltB at h3
    rw [g, hy] at h3
    have h4 : s[j] < y := by simpa using h3
    by_cases e : i = j
    · subst e
      rw [g] at hx
      cases hx
      exact h4
    · have := setB_lt (by unfold setB; rw [Bool.and_eq_true]; exact h) j i x s[j] (by omega) hx g
      omega
theorem setB_last {s : List Int} (h : setB 12 s = true) {l x : Int} (hl : s[s.length - 1]? = some l) (hx : x ∈ s) : x ≤ l := by
  obtain ⟨i, hi, rfl⟩ := List.mem_iff_getElem.mp hx
  by_cases e : i = s.length - 1
  · rw [List.getElem?_eq_getElem (by omega)] at hl
    have := Option.some.inj hl
    simp only [← e] at this
    omega
  · have := setB_lt h (s.length - 1) i s[i] l (by omega) (List.getElem?_eq_getElem hi) hl
    omega
theorem Good.lt {ss : List (List Int)} {k : Nat} (h : Good ss k) {s : List Int} {t : Int} (hs : s ∈ ss) (ht : t ∈ s) : ∃ n : Nat, t = n ∧ n < k := by
  obtain ⟨t0, t1⟩ := setB_mem (h.st s hs) ht
  obtain ⟨n, rfl⟩ := Int.eq_ofNat_of_zero_le t0
  refine ⟨n, rfl, (h.all n (by omega)).mp ?_⟩
  exact List.count_pos_iff.mpr (List.mem_flatten.mpr ⟨s, hs, ht⟩)
theorem Good.some {ss : List (List Int)} {k : Nat} (h : Good ss k) {n : Nat} (hn : n < k) : ∃ s ∈ ss, (n : Int) ∈ s := by
  have h12 := h.k12
  have := (h.all n (by omega)).mpr hn
  exact List.mem_flatten.mp (List.count_pos_iff.mp this)
def lastOf (s : List Int) : Int := (s[s.length - 1]?).getD 0
theorem lastOf_get {s : List Int} (h : s ≠ []) : s[s.length - 1]? = some (lastOf s) := by
  have : s.length - 1 < s.length := by
    have : s.length ≠ 0 := fun z => h (List.length_eq_zero_iff.mp z)
    omega
  unfold lastOf
  rw [List.getElem?_eq_getElem this]; rfl
/-- max(.., default=0) tells the number of ties -/
theorem many_of {ss : List (List Int)} {k : Nat} (h : Good ss k) : (ss.map (fun s => lastOf s + 1) = [] → k = 0) ∧
    ∀ m, m ∈ ss.map (fun s => lastOf s + 1) → (∀ n, n ∈ ss.map (fun s => lastOf s + 1) → n ≤ m) → m = k := by
  refine ⟨fun e => ?_, fun m hm hall => ?_⟩
  · have e := List.map_eq_nil_iff.mp e
    rcases Nat.eq_zero_or_pos k with z | z
    · exact z
    · obtain ⟨s, hs, _⟩ := h.some z
      rw [e] at hs
      cases hs
  · obtain ⟨s, hs, rfl⟩ := List.mem_map.mp hm
    have gl := lastOf_get (h.ne s hs)
    obtain ⟨n, en, hn⟩ := h.lt hs (List.mem_of_getElem? gl)
    obtain ⟨s', hs', ht'⟩ := h.some (n := k - 1) (by omega)
    have h1 := setB_last (h.st s' hs') (lastOf_get (h.ne s' hs')) ht'
    have h2 := hall (lastOf s' + 1) (List.mem_map.mpr ⟨s', hs', rfl⟩)
    omega
theorem ix_listK {X : Cx} {K : PySem.W.Frag} (h : X.K = K) : IxR X (rIxL K) := by subst h; exact ix_list
theorem ix_tupK {X : Cx} {K : PySem.W.Frag} (h : X.K = K) : IxR X (rIxT K) := by subst h; exact ix_tup
/-- the ends of the tie t: its first and its last place -/
def endOf (ss : List (List Int)) (t : Nat) : Int × Int := (((pls (tagN 0 ss) t)[0]?).getD 0, ((pls (tagN 0 ss) t)[(pls (tagN 0 ss) t).length - 1]?).getD 0)
/-- at q: for each tie the pair of its ends -/
def SidesAt (K : PySem.W.Frag) (H : Hp) (q : Addr) (ss : List (List Int)) (k : Nat) : Prop :=
  ∃ as : List Addr, as.length = k ∧ SqT K H q (as.map V.ref) ∧ ∀ (t : Nat) (a : Addr), as[t]? = some a → SqT K H a [.int (endOf ss t).1, .int (endOf ss t).2]
theorem SidesAt.same {K : PySem.W.Frag} {H H' : Hp} {q : Addr} {ss : List (List Int)} {k : Nat} (h : SidesAt K H q ss k) (s : Same H H') : SidesAt K H' q ss k :=
  let ⟨as, h1, h2, h3⟩ := h; ⟨as, h1, same_tup s h2, fun t a e => same_tup s (h3 t a e)⟩
section
variable {P : Program} {w : World} {K : PySem.W.Frag} {mg : Str → Option Value} {base : Heap}
theorem at_last {s : List Int} (h : s ≠ []) : atI (s.map V.int) (-1) = some (V.int (lastOf s)) := by
  have hl : s.length ≠ 0 := fun z => h (List.length_eq_zero_iff.mp z)
  have e : ixN (s.map V.int).length (-1) = some (s.length - 1) := by
    rw [List.length_map]
    unfold ixN
    rw [if_neg (by decide), if_pos (by omega)]
    congr 1
    omega
  unfold atI
  rw [e]
  exact map_get (lastOf_get h)
theorem rMaxD_of {H : Hp} {D : Addr} {ss : List (List Int)} {k : Nat} {Q : VK} (h : Good ss k) (e : H D = some (.lst (ss.map fun s => V.int (lastOf s + 1)))) (q : Q (.int (k : Nat)) H) : rMaxD K [.ref D] [.int 0] H Q := by
  obtain ⟨m0, m1⟩ := many_of h
  refine ⟨D, ss.map (fun s => lastOf s + 1), .int 0, rfl, rfl, SqL.of (by rw [List.map_map]; exact e), fun z => ?_, fun m a b => ?_⟩
  · have := m0 z
    subst this
    exact q
  · rw [m1 m a b]
    exact q
theorem for_enumA {σ : L2.St} {Hb H : Hp} {g : TG} {tb : TS} {D : Ends} {i : Nat} {a : Addr} {xs : List V} (hσ : σ[i]? = some (some (.ref a))) (h : SqA K Hb a xs) (s : Same Hb H) (Pv : Nat → L2.St → Hp → Prop) (h0 : Pv 0 σ H)
    (hG : ∀ i σ H', Pv i σ H' → Same Hb H')
    (hs : ∀ i x σ H H', i < xs.length → Pv i σ H → YPair (fun i => some (.int (i : Nat))) (fun i => xs[i]?) i H x H' → g x σ H' fun σ2 H2 => tb { D with nx := Pv (i + 1), ct := Pv (i + 1), bk := D.nx } σ2 H2) (hd : ∀ σ H, Pv xs.length σ H → D.nx σ H) :
    tFor (iEnumA K (tCons (tVar i) tNil)) g tb D σ H := enum_var hσ h s fun _ _ w hJ => for_it w Pv h0 (fun i σ H _ p => hJ _ (hG i σ H p)) hs hd
def spSides (K : PySem.W.Frag) : Sp := fun vs H Q _ => ∃ (a : Addr) (xs : List V) (ss : List (List Int)) (k : Nat), vs = [.ref a] ∧ SqT K H a xs ∧ Stars K H xs ss ∧ Good ss k ∧
  ∀ H' q, Same H H' → H q = none → SidesAt K H' q ss k → Q (.ref q) H'
theorem scSides : FnScope ["stars", "star", "many", "tie", "places", "place", "at"] ["stars"] (defScope sSides) := ⟨rfl, rfl, rfl, by decide +kernel, rfl, by decide +kernel, by decide +kernel⟩
/-- what stands while the places are gathered -/
structure Plc (H H' : Hp) (D : Addr) (pl : List Addr) (k : Nat) (l : List (Nat × Int)) : Prop where
  s : Same H H'
  d : H' D = some (.lst (pl.map V.ref))
  nd : H D = none
  k : pl.length = k
  inj : ∀ (i j : Nat) (a : Addr), pl[i]? = some a → pl[j]? = some a → i = j
  at_ : ∀ (i : Nat) (a : Addr), pl[i]? = some a → H a = none ∧ a ≠ D ∧ H' a = some (.lst ((pls l (i : Int)).map V.int))
theorem Plc.same {H H' H2 : Hp} {D : Addr} {pl : List Addr} {k : Nat} {l : List (Nat × Int)} (p : Plc H H' D pl k l) (s : Same H' H2) : Plc H H2 D pl k l :=
  ⟨p.s.trans s, s _ _ p.d, p.nd, p.k, p.inj, fun i a e => let ⟨h1, h2, h3⟩ := p.at_ i a e; ⟨h1, h2, s _ _ h3⟩⟩
theorem Plc.add {H H' : Hp} {D a : Addr} {pl : List Addr} {k n t : Nat} {l : List (Nat × Int)} (p : Plc H H' D pl k l) (e : pl[t]? = some a) : Plc H (upd H' a (.lst ((pls l (t : Int)).map V.int ++ [.int n]))) D pl k (l ++ [(n, (t : Int))]) := by
  obtain ⟨h1, h2, h3⟩ := p.at_ t a e
  refine ⟨same_upd p.s h1, by rw [upd_ne (Ne.symm h2)]; exact p.d, p.nd, p.k, p.inj, fun i b f => ?_⟩
  obtain ⟨g1, g2, g3⟩ := p.at_ i b f
  refine ⟨g1, g2, ?_⟩
  by_cases z : b = a
  · subst z
    have := p.inj i t b f e
    subst this
    rw [upd_same, pls_same, List.map_append]
    rfl
  · have : t ≠ i := fun q => z (by subst q; rw [f] at e; exact Option.some.inj e)
    rw [upd_ne z, pls_ne _ _ (by omega)]
    exact g3
theorem Plc.grow {H H' : Hp} {D p : Addr} {pl : List Addr} {k : Nat} (P : Plc H H' D pl k []) (np : H' p = none) : Plc H (upd (upd H' p (.lst [])) D (.lst (pl.map V.ref ++ [V.ref p]))) D (pl ++ [p]) (k + 1) [] := by
  have nDp : D ≠ p := ne_of_none P.d np
  have hp : H p = none := P.s.free np
  have old : ∀ (i : Nat) (a : Addr), pl[i]? = some a → a ≠ p := fun i a e => ne_of_none (P.at_ i a e).2.2 np
  have cut : ∀ (i : Nat) (a : Addr), (pl ++ [p])[i]? = some a → pl[i]? = some a ∨ (i = pl.length ∧ a = p) := fun i a e => by
    by_cases h : i < pl.length
    · rw [List.getElem?_append_left h] at e
      exact .inl e
    · rw [List.getElem?_append_right (by omega)] at e
      have hi := (List.getElem?_eq_some_iff.mp e).1
      simp only [List.length_singleton] at hi
      have : i - pl.length = 0 := by omega
      rw [this] at e
      exact .inr ⟨by omega, (Option.some.inj e).symm⟩
  refine ⟨same_upd (same_upd P.s hp) P.nd, by rw [upd_same, List.map_append]; rfl, P.nd, by rw [List.length_append, P.k]; rfl, fun i j a e f => ?_, fun i a e => ?_⟩
  · rcases cut i a e with h | ⟨h, h'⟩
    · rcases cut j a f with g | ⟨g, g'⟩
      · exact P.inj i j a h g
      · exact absurd g' (old i a h)
    · rcases cut j a f with g | ⟨g, g'⟩
      · exact absurd h' (old j a g)
      · rw [h, g]
  · rcases cut i a e with h | ⟨h, h'⟩
    · obtain ⟨g1, g2, g3⟩ := P.at_ i a h
      exact ⟨g1, g2, by rw [upd_ne g2, upd_ne (old i a h)]; exact g3⟩
    · subst h'
      exact ⟨hp, Ne.symm nDp, by rw [upd_ne (Ne.symm nDp), upd_same]; rfl⟩
theorem at_first {l : List Int} (h : l ≠ []) : atI (l.map V.int) 0 = some (V.int ((l[0]?).getD 0)) := by
  cases l with
  | nil => exact absurd rfl h
  | cons x r => exact atI_nat (j := 0) rfl
theorem ok_sides {f : Addr} {fd : FuncData} (F : Fun K "sides_of" "sides_of" sSides f fd) (mma : mg "max" = none) (mra : mg "range" = none) (men : mg "enumerate" = none) (mt : mg "tuple" = none) : FnOk P w K mg base CX0 1 f fd ["stars"] (spSides K) := by
  refine F.ok scSides (fun vs H Q E h => ?_) (fun cdv A outer s H vs Q E hr h => ?_)
  · obtain ⟨a, xs, ss, k, rfl, _⟩ := h
    rfl
  · obtain ⟨a, xs, ss, k, rfl, hS, hX, hG, q⟩ := h
    refine ⟨_, pss_cons (ps_set (i := 2) scSides.nd rfl (.inl rfl) (pe_callBK (id := "max") (cr_maxD rfl) (by rfl) mma (by decide +kernel) (pa_cons (pe_lc (own := [("star", 1)]) (g := gName 1) (tt := tYes) (by rfl) scSides.nd (pi_tup (pv 0)) (blkOk_by (own := [("star", 1)]) (N := ["stars", "star", "many", "tie", "places", "place", "at"]) (sc := defScope sSides) (by decide +kernel))
          (fun _ _ _ _ _ => pg_name (i := 1) scSides.nd rfl (Or.inl rfl)) (fun _ _ _ _ _ => pts_nil) (fun _ _ _ _ _ => pe_op op_add (pe_ix (ix_tupK (K := K) rfl) (pv 1) (pe_un un_neg pe_int) (fun _ _ => rfl)) pe_int)) pa_nil) (pk_cons pe_int pk_nil)))
      (pss_cons (ps_setLc (i := 4) (own := [("tie", 3)]) (g := gName 3) (tt := tYes) rfl scSides.nd rfl rfl (sw_true rfl rfl rfl (by decide +kernel)) (pi_range1 (by rfl) mra (pa_cons (pv 2) pa_nil)) (blkOk_by (own := [("tie", 3)]) (N := ["stars", "star", "many", "tie", "places", "place", "at"]) (sc := defScope sSides) (by decide +kernel))
          (fun _ _ _ _ _ => pg_name (i := 3) scSides.nd rfl (Or.inl rfl)) (fun _ _ _ _ _ => pts_nil) (fun _ _ _ _ _ => pe_lst pa_nil))
      (pss_cons (ps_for PassesOwn.never rfl (pi_enumA (by rfl) men (pa_cons (pv 0) pa_nil)) (pg_tup rfl (pgs_cons (pg_name (i := 5) scSides.nd rfl (.inl rfl)) (pgs_cons (pg_name (i := 1) scSides.nd rfl (.inl rfl)) pgs_nil)))
        (pss_one (ps_for PassesOwn.never rfl (pi_tup (pv 1)) (pg_name (i := 3) scSides.nd rfl (.inl rfl))
          (pss_one (ps_expr (pe_bm PySem.F.plainAttrs_list PySem.F.slot_list_append PySem.F.type_list_append mt_append (pe_ix ix_list (pv 4) (pv 3) (fun _ _ => rfl)) (pa_cons (pv 5) pa_nil)))))))
      (pss_one (ps_ret (pe_callTy call_tuple_of (by rfl) mt (by decide +kernel) (pa_cons (pe_lc (own := [("at", 6)]) (g := gName 6) (tt := tYes) (by rfl) scSides.nd (pi_list (pv 4)) (blkOk_by (own := [("at", 6)]) (N := ["stars", "star", "many", "tie", "places", "place", "at"]) (sc := defScope sSides) (by decide +kernel))
          (fun _ _ _ _ _ => pg_name (i := 6) scSides.nd rfl (Or.inl rfl)) (fun _ _ _ _ _ => pts_nil) (fun _ _ _ _ _ => pe_tup (pa_cons (pe_ix (ix_listK (K := K) rfl) (pv 6) pe_int (fun _ _ => rfl)) (pa_cons (pe_ix (ix_listK (K := K) rfl) (pv 6) (pe_un un_neg pe_int) (fun _ _ => rfl)) pa_nil)))) pa_nil)))))), ?_⟩
    -- max([star[-1] + 1 for star in stars], default=0)
    refine ⟨_, rfl, a, rfl, ⟨_, hS⟩, fun D0 nD0 => ?_⟩
    refine lc_tup (K := K) (a := a) (xs := xs) (fun i H' => Same H H' ∧ H' D0 = some (.lst ((ss.take i).map fun s => V.int (lastOf s + 1)))) ⟨same_new nD0, upd_same⟩ (fun i H' _ hp => same_tup hp.1 hS) (fun i x H' hx hp => ?_) (fun H1 hp => ?_)
    · obtain ⟨sm, eD⟩ := hp
      have hi : i < ss.length := by rw [← hX.1]; exact (List.getElem?_eq_some_iff.mp hx).1
      have gs : ss[i]? = some ss[i] := List.getElem?_eq_getElem hi
      generalize ss[i] = st at gs
      obtain ⟨sa, f3, hsa⟩ := hX.2 i st gs
      rw [f3] at hx
      cases hx
      have hne := hG.ne st (List.mem_of_getElem? gs)
      refine ⟨rfl, tyes_ite ?_⟩
      refine ⟨_, rfl, 1, rfl, sa, _, -1, _, rfl, rfl, same_tup sm hsa, at_last hne, _, _, rfl, rfl, ?_⟩
      refine ⟨_, eD, ?_, fun b o e => ?_, ?_⟩
      · rw [List.length_map, List.length_take]; have := hG.n; exact small1000 (by omega)
      · rw [upd_ne (ne_of_none e nD0)]
        exact sm b o e
      · rw [upd_same, List.take_add_one, gs, List.map_append]
        rfl
    obtain ⟨s1, e1⟩ := hp
    rw [hX.1, List.take_length] at e1
    show rMaxD K [.ref D0] [.int 0] H1 _
    refine rMaxD_of hG e1 ?_
    -- places = [[] for tie in range(many)]
    have hk := hG.k12
    refine ⟨_, rfl, k, rfl, by omega, by omega, fun D nD => ?_⟩
    have nHD : H D = none := s1.free nD
    refine lc_range (lo := 0) (n := k) (fun i H' => ∃ pl : List Addr, Plc H H' D pl i []) ⟨[], same_upd s1 nHD, upd_same, nHD, rfl, fun _ _ _ e => by simp at e, fun _ _ e => by simp at e⟩ (fun i H' hi hp => ?_) (fun H2 hp => ?_)
    · obtain ⟨pl, P⟩ := hp
      refine ⟨rfl, tyes_ite ?_⟩
      refine ⟨by show 0 ≤ sizeLine; decide, fun p np => ?_⟩
      refine ⟨_, by rw [upd_ne (ne_of_none P.d np)]; exact P.d, ?_, _, P.grow np⟩
      rw [List.length_map, P.k]; exact small1000 (by omega)
    obtain ⟨pl, P⟩ := hp
    clear e1 s1 nD nD0
    -- for place, star in enumerate(stars)
    show tFor (iEnumA K (tCons (tVar 0) tNil)) _ _ _ [some (.ref a), none, some (.int (k : Nat)), none, some (.ref D), none, none] H2
    refine for_enumA rfl (.inr hS) P.s (fun i σ H' => ∃ (y1 y3 y5 : Option V), σ = [some (.ref a), y1, some (.int (k : Nat)), y3, some (.ref D), y5, none] ∧ Plc H H' D pl k (tagN 0 (ss.take i)))
      ⟨none, none, none, rfl, P⟩ (fun i σ H' hp => ?_) (fun i x σ H3 H4 hi hp hy => ?_) (fun σ H3 hp => ?_)
    · obtain ⟨_, _, _, _, P⟩ := hp
      exact P.s
    · obtain ⟨y1, y3, y5, rfl, P⟩ := hp
      obtain ⟨T, x1, x2, rfl, nT, rfl, f1, f2⟩ := hy
      cases f1
      have f2 : xs[i]? = some x2 := f2
      rw [hX.1] at hi
      have gs : ss[i]? = some ss[i] := List.getElem?_eq_getElem hi
      generalize ss[i] = st at gs
      obtain ⟨sa, f3, hsa⟩ := hX.2 i st gs
      rw [f3] at f2
      cases f2
      have mem : st ∈ ss := List.mem_of_getElem? gs
      refine ⟨T, _, rfl, .inl (.inl upd_same), rfl, _, _, rfl, _, _, rfl, rfl, ?_⟩
      replace P := P.same (same_new (o := .tup [.int (i : Nat), .ref sa]) nT)
      generalize upd H3 T (.tup [.int (i : Nat), .ref sa]) = H4 at P ⊢
      refine ⟨_, rfl, sa, rfl, ⟨_, same_tup P.s hsa⟩, ?_⟩
      refine for_it (walk_tup (xs := st.map V.int)) (fun j σ H' => ∃ (y3 : Option V), σ = [some (.ref a), some (.ref sa), some (.int (k : Nat)), y3, some (.ref D), some (.int (i : Nat)), none] ∧ Plc H H' D pl k (tagN 0 (ss.take i) ++ (st.take j).map fun t => (i, t)))
        ⟨y3, rfl, by rw [List.take_zero, List.map_nil, List.append_nil]; exact P⟩ (fun j σ H' _ hp => ?_) (fun j x σ H6 H7 hj hp hy => ?_) (fun σ H6 hp => ?_)
      · obtain ⟨_, _, P⟩ := hp
        exact same_tup P.s hsa
      · obtain ⟨y3, rfl, P⟩ := hp
        obtain ⟨rfl, hx⟩ := hy
        rw [List.getElem?_map] at hx
        cases ht : st[j]? with
        | none => rw [ht] at hx; cases hx
        | some t =>
          rw [ht] at hx
          cases hx
          obtain ⟨n, rfl, hn⟩ := hG.lt mem (List.mem_of_getElem? ht)
          have hc := pre_count gs ht
          have h2 := hG.two (n : Int)
          have ga : pl[n]? = some (pl[n]'(by rw [P.k]; exact hn)) := List.getElem?_eq_getElem _
          generalize pl[n]'(by rw [P.k]; exact hn) = al at ga
          obtain ⟨g1, g2, g3⟩ := P.at_ n al ga
          refine ⟨_, rfl, _, rfl, D, _, _, _, rfl, rfl, SqL.of P.d, atI_nat (j := n) (v := V.ref al) (by rw [List.getElem?_map, ga]; rfl), .inl ⟨rfl, _, SqL.of g3⟩, _, rfl, al, _, _, rfl, rfl, g3, ?_, ?_⟩
          · rw [List.length_map, pls_len, List.map_append, tagN_ties, List.map_map, show ((fun (x : Nat × Int) => x.2) ∘ fun t => (i, t)) = id from rfl, List.map_id]
            exact small1000 (by omega)
          · refine ⟨_, rfl, ?_⟩
            rw [List.take_add_one, ht, List.map_append, ← List.append_assoc]
            exact P.add ga
      · obtain ⟨y3, rfl, P⟩ := hp
        rw [List.length_map, List.take_length, ← tagN_take gs] at P
        exact ⟨_, _, _, rfl, P⟩
    · obtain ⟨y1, y3, y5, rfl, P⟩ := hp
      rw [hX.1, List.take_length] at P
      -- tuple([(at[0], at[-1]) for at in places])
      refine ⟨_, rfl, D, rfl, ⟨_, SqL.of P.d⟩, fun L nL => ?_⟩
      refine lc_list (K := K) (a := D) (xs := pl.map V.ref) (fun i H' => Same H3 H' ∧ ∃ as : List Addr, as.length = i ∧ H' L = some (.lst (as.map V.ref)) ∧ ∀ (t : Nat) (b : Addr), as[t]? = some b → b ≠ L ∧ H' b = some (.tup [.int (endOf ss t).1, .int (endOf ss t).2]))
        ⟨same_new nL, [], rfl, upd_same, fun _ _ e => by simp at e⟩ (fun i H' _ hp => SqL.of (hp.1 _ _ P.d)) (fun i x H' hx hp => ?_) (fun H' hp => ?_)
      · obtain ⟨sm, as, el, eL, hb⟩ := hp
        rw [List.getElem?_map] at hx
        cases ga : pl[i]? with
        | none => rw [ga] at hx; cases hx
        | some al =>
          rw [ga] at hx
          cases hx
          have hi : i < k := by rw [← P.k]; exact (List.getElem?_eq_some_iff.mp ga).1
          obtain ⟨g1, g2, g3⟩ := P.at_ i al ga
          have hne : pls (tagN 0 ss) (i : Int) ≠ [] := fun z => by
            have h1 := (hG.all i (by omega)).mpr hi
            have h2 := pls_len (tagN 0 ss) (i : Int)
            rw [z, tagN_ties] at h2
            simp only [List.length_nil] at h2
            omega
          have g4 := sm _ _ g3
          refine ⟨rfl, tyes_ite ?_⟩
          refine ⟨_, rfl, al, _, 0, _, rfl, rfl, SqL.of g4, at_first hne, _, rfl, 1, rfl, al, _, -1, _, rfl, rfl, SqL.of g4, at_last hne, by show 2 ≤ sizeLine; decide, fun p np => ?_⟩
          have nLp : L ≠ p := ne_of_none eL np
          refine ⟨_, by rw [upd_ne nLp]; exact eL, ?_, fun b o e => ?_, as ++ [p], by simp [el], by rw [upd_same, List.map_append]; rfl, fun t b e => ?_⟩
          · rw [List.length_map, el]; exact small1000 (by omega)
          · rw [upd_ne (ne_of_none e nL), upd_ne (ne_of_none (sm _ _ e) np)]
            exact sm b o e
          · by_cases h : t < as.length
            · rw [List.getElem?_append_left h] at e
              obtain ⟨b1, b2⟩ := hb t b e
              exact ⟨b1, by rw [upd_ne b1, upd_ne (ne_of_none b2 np)]; exact b2⟩
            · rw [List.getElem?_append_right (by omega)] at e
              have hi' := (List.getElem?_eq_some_iff.mp e).1
              simp only [List.length_singleton] at hi'
              have z : t - as.length = 0 := by omega
              rw [z] at e
              have et : t = i := by omega
              cases e
              subst et
              exact ⟨Ne.symm nLp, by rw [upd_ne (Ne.symm nLp), upd_same]; rfl⟩
      · obtain ⟨sm, as, el, eL, hb⟩ := hp
        rw [List.length_map, P.k] at el
        refine ⟨L, _, rfl, .inl ⟨SqL.of eL, fun l nl => ?_⟩⟩
        refine q _ l (P.s.trans (sm.trans (same_new nl))) ((P.s.trans sm).free nl) ⟨as, el, SqT.of upd_same, fun t b e => SqT.of ?_⟩
        obtain ⟨b1, b2⟩ := hb t b e
        rw [upd_ne (ne_of_none b2 nl)]
        exact b2
end
end Sg

/-! Web(stars) and its == where the stars are right. -/
namespace Sg
open PySem PySem.Spec PyProof.Rows L2 RZ
abbrev sWInit : Stmt := inClass (topS 19) 0
abbrev sWEq : Stmt := inClass (topS 19) 2
/-- over a list or a tuple -/
def iSeqA (K : PySem.W.Frag) (tl : TE) : TI := fun σ H R => tl σ H fun x H1 => ∃ a xs, x = .ref a ∧ ((SqL K H1 a xs ∧ R (Itl K a) H1) ∨ (SqT K H1 a xs ∧ R (Itt K a) H1))
theorem pi_seqA {X : Cx} {tg l : Expr} {tl : TE} (hl : PE X l tl) : PI X tg l (iSeqA X.K tl) := by
  refine ⟨fun pins s σ H R I h => ?_⟩
  refine thn (hl.run pins s σ H _ I h) fun v s1 ⟨x, H1, I1, r1, q1⟩ => ?_
  obtain ⟨a, xs, e, q⟩ := q1
  subst e
  cases r1
  have fr : ∀ b, b ∈ [s1.heap.objs.size] → FpOk X pins H1 b := fun b hb => by
    have e : b = s1.heap.objs.size := by simpa using hb
    subst e
    exact I1.fpOk (Nat.le_refl _) (I1.hok.fresh (Nat.le_refl _))
  rcases q with ⟨hq, q⟩ | ⟨hq, q⟩
  · obtain ⟨its, rv, p, hz⟩ := I1.list hq
    refine wpAny_pyIter_list p.isList ?_
    exact ⟨s1.heap.objs.size, [s1.heap.objs.size], _, _, H1, rfl, I1.kept (t' := s1.toks) fun b o e => Heap.get?_push_of_some _ e, turn_list a _, ⟨_, Heap.get?_push_size _ rfl, rfl, rfl⟩, fr, q⟩
  · obtain ⟨its, rv, p, hz⟩ := I1.tuple hq
    refine wpAny_pyIter_tuple (show s1.heap.IsTuple a its.toArray from p) ?_
    exact ⟨s1.heap.objs.size, [s1.heap.objs.size], _, _, H1, rfl, I1.kept (t' := s1.toks) fun b o e => Heap.get?_push_of_some _ e, turn_tuple a _, ⟨_, Heap.get?_push_size _ rfl, rfl, rfl⟩, fr, q⟩
theorem seq_var {K : PySem.W.Frag} {σ : L2.St} {Hb H : Hp} {R : It → Hp → Prop} {i : Nat} {a : Addr} {xs : List V} (hσ : σ[i]? = some (some (.ref a))) (h : SqA K Hb a xs) (s : Same Hb H)
    (k : ∀ (J : It) (G : Hp → Prop), Walk J xs.length G (YAt xs) → (∀ H', Same Hb H' → G H') → R J H) : iSeqA K (tVar i) σ H R := by
  refine ⟨_, hσ, a, xs, rfl, ?_⟩
  rcases h with h | h
  · exact .inl ⟨s.seq h, k _ _ walk_list fun H' s => s.seq h⟩
  · exact .inr ⟨same_tup s h, k _ _ walk_tup fun H' s => same_tup s h⟩
def rTupA (K : PySem.W.Frag) : List V → Hp → VK → Prop := fun xs H Q => ∃ p ys, xs = [.ref p] ∧ SqT K H p ys ∧ Q (.ref p) H
theorem call_tupK {X : Cx} {K : PySem.W.Frag} (h : X.K = K) : CallR X (.type "tuple") (rTupA K) := by
  subst h
  intro pins s σ H xs us Q I r h
  obtain ⟨p, ys, e, h1, q⟩ := h
  exact call_tuple_of pins s σ H xs us Q I r ⟨p, ys, e, .inr ⟨h1, q⟩⟩
section
variable {P : Program} {w : World} {K : PySem.W.Frag} {mg : Str → Option Value} {base : Heap}
/-- all but what stands at x stays -/
def ButX (x : Addr) (H H' : Hp) : Prop := ∀ b o, b ≠ x → H b = some o → H' b = some o
theorem nStSi : ¬ (("stars" : Str) = "sides") := by decide +kernel
theorem lc_seqA {σ : L2.St} {Hb H : Hp} {g : TG} {tt : TT} {te : TE} {vs : List Nat} {Q : VK} {i : Nat} {a : Addr} {xs : List V} (hσ : σ[i]? = some (some (.ref a))) (h : SqA K Hb a xs) (s : Same Hb H)
    (k : ∀ D, H D = none → ∃ Pv : Nat → Hp → Prop, Pv 0 (upd H D (.lst [])) ∧ (∀ i H', Pv i H' → Same Hb H') ∧ (∀ i x H1 H2, i < xs.length → Pv i H1 → YAt xs i H1 x H2 → g x (wipe σ vs) H2 fun σ2 H2 => wipe σ2 vs = wipe σ vs ∧ tt σ2 H2 fun b H3 =>
      if b = true then te σ2 H3 fun y H4 => ∃ acc, H4 D = some (.lst acc) ∧ acc.length < sizeLine ∧ Pv (i + 1) (upd H4 D (.lst (acc ++ [y]))) else Pv (i + 1) H3) ∧ ∀ H', Pv xs.length H' → Q (.ref D) H') : tLc (iSeqA K (tVar i)) g tt te vs σ H Q :=
  seq_var hσ h s fun _ _ w hG D nD => let ⟨Pv, h0, hg, hs, hd⟩ := k D nD; lc_it w Pv h0 (fun i H _ p => hG _ (hg i H p)) hs hd
theorem butX_upd {x : Addr} {H : Hp} {o : HO} : ButX x H (upd H x o) := fun b u n e => by rw [upd_ne n]; exact e
theorem ButX.trans {x : Addr} {H H1 H2 : Hp} (a : ButX x H H1) (b : ButX x H1 H2) : ButX x H H2 := fun c o n e => b c o n (a c o n e)
theorem ButX.of {x : Addr} {H H' : Hp} (s : Same H H') : ButX x H H' := fun b o _ e => s b o e
/-- a web's fields -/
def wf (p q : Addr) : List (Str × V) := putF "sides" (.ref q) (putF "stars" (.ref p) [])
theorem wf_stars (p q : Addr) : (wf p q).lookup ("stars" : Str) = some (.ref p) := by
  unfold wf
  rw [lookup_putF, if_neg nStSi, lookup_putF, if_pos rfl]
theorem wf_sides (p q : Addr) : (wf p q).lookup ("sides" : Str) = some (.ref q) := by
  unfold wf
  rw [lookup_putF, if_pos rfl]
/-- what the class at C is asked -/
structure WebC (K : PySem.W.Frag) (mg : Str → Option Value) (C : Addr) : Prop where
  cl : Cls K C
  nSt : NoAttr K C "stars"
  nSi : NoAttr K C "sides"
  g : mg "Web" = some (.ref C)
/-- a web stands at x -/
def WebAt (K : PySem.W.Frag) (C : Addr) (H : Hp) (x : Addr) (ss : List (List Int)) (k : Nat) : Prop :=
  ∃ (dx p q : Addr) (xs : List V), H x = some (.ins C dx (wf p q)) ∧ SqT K H p xs ∧ Stars K H xs ss ∧ SidesAt K H q ss k
theorem WebAt.same {C x : Addr} {H H' : Hp} {ss : List (List Int)} {k : Nat} (h : WebAt K C H x ss k) (s : Same H H') : WebAt K C H' x ss k :=
  let ⟨dx, p, q, xs, h1, h2, h3, h4⟩ := h; ⟨dx, p, q, xs, s _ _ h1, same_tup s h2, h3.same s, h4.same s⟩
theorem butX_tup {x C dx a : Addr} {fs : List (Str × V)} {H H' : Hp} {xs : List V} (e : ButX x H H') (hx : H x = some (.ins C dx fs)) (h : SqT K H a xs) : SqT K H' a xs := by
  have ne : ∀ o', H a = some o' → o' ≠ .ins C dx fs → a ≠ x := fun o' e z q => by
    rw [q, hx] at e
    exact z (Option.some.inj e).symm
  rcases h with (h | ⟨o', h⟩) | h
  · exact .inl (.inl (e _ _ (ne _ h (fun z => nomatch z)) h))
  · exact .inl (.inr ⟨o', e _ _ (ne _ h (fun z => nomatch z)) h⟩)
  · exact .inr h
theorem Stars.butX {x C dx : Addr} {fs : List (Str × V)} {H H' : Hp} {xs : List V} {ss : List (List Int)} (h : Stars K H xs ss) (e : ButX x H H') (hx : H x = some (.ins C dx fs)) : Stars K H' xs ss := ⟨h.1, fun i t g => let ⟨a, h1, h2⟩ := h.2 i t g; ⟨a, h1, butX_tup e hx h2⟩⟩
def spWInit (K : PySem.W.Frag) (C : Addr) : Sp := fun vs H Q _ => ∃ (x a dx : Addr) (xs : List V) (ss : List (List Int)) (k : Nat), vs = [.ref x, .ref a] ∧ H x = some (.ins C dx []) ∧ SqA K H a xs ∧ Stars K H xs ss ∧ Good ss k ∧ (∀ s ∈ ss, s.length ≤ 100) ∧
  ∀ H', ButX x H H' → WebAt K C H' x ss k → Q .non H'
theorem scWInit : FnScope ["self", "stars", "star"] ["self", "stars"] (defScope sWInit) := ⟨rfl, rfl, rfl, by decide +kernel, rfl, by decide +kernel, by decide +kernel⟩
theorem ok_winit {f fC fS C : Addr} {fd fdC fdS : FuncData} (F : Fun K "__init__" "Web.__init__" sWInit f fd) (T : WebC K mg C) (GC : FnOk P w K mg base CX0 3 fC fdC ["stars"] (spCheck K)) (gC : mg "check_stars" = some (.ref fC)) (kC : PySem.W.keepIn K (.ref fC) = true) (bC : Binds K fdC ["stars"] [])
    (GS : FnOk P w K mg base CX0 1 fS fdS ["stars"] (spSides K)) (gS : mg "sides_of" = some (.ref fS)) (kS : PySem.W.keepIn K (.ref fS) = true) (bS : Binds K fdS ["stars"] []) (mt : mg "tuple" = none) : FnOk P w K mg base CX0 4 f fd ["self", "stars"] (spWInit K C) := by
  refine F.ok scWInit (fun vs H Q E h => ?_) (fun cdv A outer s H vs Q E hr h => ?_)
  · obtain ⟨x, a, dx, xs, ss, k, rfl, _⟩ := h
    rfl
  · obtain ⟨x, a, dx, xs, ss, k, rfl, hx, hS, hX, hG, hL, q⟩ := h
    refine ⟨_, pss_cons (ps_expr (pe_call GC hr (by rfl) gC kC bC .nil pass0 (pa_cons (pv 1) pa_nil)))
      (pss_cons (ps_fld (pv 0) (pe_callTy call_tuple_of (by rfl) mt (by decide +kernel) (pa_cons (pe_lc (own := [("star", 2)]) (g := gName 2) (tt := tYes) (by rfl) scWInit.nd (pi_seqA (pv 1)) (blkOk_by (own := [("star", 2)]) (N := ["self", "stars", "star"]) (sc := defScope sWInit) (by decide +kernel))
          (fun _ _ _ _ _ => pg_name (i := 2) scWInit.nd rfl (Or.inl rfl)) (fun _ _ _ _ _ => pts_nil) (fun _ _ _ _ _ => pe_callTy (call_tupK (K := K) rfl) (by rfl) mt (by decide +kernel) (pa_cons (pv 2) pa_nil))) pa_nil)) rfl)
      (pss_one (ps_fld (pv 0) (pe_call GS (hr.mono (by decide)) (by rfl) gS kS bS .nil pass0 (pa_cons (pe_fld (pv 0) rfl) pa_nil)) rfl))), ?_⟩
    refine ⟨_, rfl, a, xs, ss, k, rfl, hS, hX, hG, hL, fun H1 s1 => ?_⟩
    -- self.stars = tuple([tuple(star) for star in stars])
    show tSeq _ _ _ [some (.ref x), some (.ref a), none] H1
    unfold tSeq sFld tCB tCons tNil
    dsimp only
    show tLc (iSeqA K (tVar 1)) _ _ _ _ [some (.ref x), some (.ref a), none] H1 _
    refine lc_seqA rfl hS s1 fun D nD => ⟨fun i H' => Same H1 H' ∧ H' D = some (.lst (xs.take i)), ⟨same_new nD, upd_same⟩, fun i H' p => s1.trans p.1, fun i y H2 H3 hi hp hy => ?_, fun H2 hp => ?_⟩
    · obtain ⟨sm, eD⟩ := hp
      obtain ⟨rfl, hx'⟩ := hy
      have gs : ss[i]? = some (ss[i]'(by rw [← hX.1]; exact hi)) := List.getElem?_eq_getElem _
      generalize ss[i]'(by rw [← hX.1]; exact hi) = st at gs
      obtain ⟨sa, f3, hsa⟩ := hX.2 i st gs
      rw [f3] at hx'
      cases hx'
      refine ⟨rfl, tyes_ite ?_⟩
      refine ⟨_, rfl, sa, _, rfl, same_tup (s1.trans sm) hsa, _, eD, ?_, fun b o e => ?_, ?_⟩
      · rw [List.length_take]; have := hG.n; have := hX.1; exact small1000 (by omega)
      · rw [upd_ne (ne_of_none e nD)]
        exact sm b o e
      · rw [upd_same, List.take_add_one, f3]
        rfl
    obtain ⟨sm, eD⟩ := hp
    rw [List.take_length] at eD
    refine ⟨D, _, rfl, .inl ⟨SqL.of eD, fun p np => ?_⟩⟩
    have s2 := s1.trans (sm.trans (same_new (o := .tup xs) np))
    have ep : SqT K (upd H2 p (.tup xs)) p xs := SqT.of upd_same
    generalize upd H2 p (.tup xs) = H3 at s2 ep ⊢
    have hx3 := s2 _ _ hx
    refine ⟨_, rfl, x, C, dx, [], rfl, hx3, T.cl, T.nSt, by show 0 < 1000; decide, ?_⟩
    have e4 : ButX x H3 (upd H3 x (.ins C dx (putF "stars" (.ref p) []))) := butX_upd
    have hx4 : (upd H3 x (.ins C dx (putF "stars" (.ref p) []))) x = some (.ins C dx (putF "stars" (.ref p) [])) := upd_same
    generalize upd H3 x (.ins C dx (putF "stars" (.ref p) [])) = H4 at e4 hx4 ⊢
    -- self.sides = sides_of(self.stars)
    have ep4 := butX_tup e4 hx3 ep
    have hX4 := (hX.same s2).butX e4 hx3
    refine ⟨_, rfl, x, C, dx, _, _, rfl, hx4, T.cl, T.nSt, (by rw [lookup_putF, if_pos rfl] <;> rfl), p, xs, ss, k, rfl, ep4, hX4, hG, fun H5 q' s5 nq hsd => ?_⟩
    have hx5 := s5 _ _ hx4
    refine ⟨_, rfl, x, C, dx, _, rfl, hx5, T.cl, T.nSi, by show 1 < 1000; decide, ?_⟩
    have e6 : ButX x H5 (upd H5 x (.ins C dx (wf p q'))) := butX_upd
    obtain ⟨as, z1, z2, z3⟩ := hsd
    exact q _ ((ButX.of s2).trans (e4.trans ((ButX.of s5).trans e6))) ⟨dx, p, q', xs, upd_same, butX_tup e6 hx5 (same_tup s5 ep4), (hX4.same s5).butX e6 hx5, as, z1, butX_tup e6 hx5 z2, fun t b e => butX_tup e6 hx5 (z3 t b e)⟩
/-! ### == of webs -/
def datS (s : List Int) : PyData := .tuple (s.map PyData.int)
def dat (ss : List (List Int)) : PyData := .tuple (ss.map datS)
theorem dp_star {H : Hp} {a : Addr} {s : List Int} (h : SqT K H a (s.map V.int)) : Dp K H (.ref a) (datS s) := .tup h (dpAll_ints s)
theorem dpAll_stars {H : Hp} : ∀ {xs : List V} {ss : List (List Int)}, Stars K H xs ss → DpAll K H xs (ss.map datS)
  | [], [], _ => .nil
  | [], _ :: _, h => by cases h.1
  | _ :: _, [], h => by cases h.1
  | x :: xs, s :: ss, h => by
    obtain ⟨a, h1, h2⟩ := h.2 0 s rfl
    cases h1
    exact .cons (dp_star h2) (dpAll_stars ⟨Nat.succ.inj h.1, fun i t e => h.2 (i + 1) t e⟩)
theorem dp_stars {H : Hp} {p : Addr} {xs : List V} {ss : List (List Int)} (h : SqT K H p xs) (hs : Stars K H xs ss) : Dp K H (.ref p) (dat ss) := .tup h (dpAll_stars hs)
theorem shaped_dat (ss : List (List Int)) : SeqAt.shaped (dat ss) = true := by
  have h1 : ∀ ss : List (List Int), PyData.canLayAll0 (ss.map datS) = true := by
    intro ss
    induction ss with
    | nil => rfl
    | cons s r ih =>
      show (PyData.canLayAll0 (s.map PyData.int) && PyData.canLayAll0 (r.map datS)) = true
      rw [ih, canLay_ints]; rfl
  have h2 : ∀ ss : List (List Int), PyData.depthAll (ss.map datS) ≤ 1 := by
    intro ss
    induction ss with
    | nil => exact Nat.zero_le _
    | cons s r ih =>
      show max (PyData.depthAll (s.map PyData.int) + 1) (PyData.depthAll (r.map datS)) ≤ 1
      rw [depth_ints]
      omega
  show (PyData.canLayAll0 (ss.map datS) && decide (PyData.depthAll (ss.map datS) + 1 ≤ 64)) = true
  rw [h1, Bool.true_and, decide_eq_true_eq]
  have := h2 ss
  omega
theorem eqv_dat (ss : List (List Int)) : PyData.eqv (dat ss) (dat ss) = true := SeqAt.eqv_refl _ (SeqAt.canLay_of_shaped (shaped_dat ss))
/-- what isinstance asks of the class -/
structure WebI (K : PySem.W.Frag) (C : Addr) : Prop where
  ha : PySem.W.findIn K (.ref C) "__class__" = some (some (.builtin "object.__class__"))
  hn : PySem.W.specialIn K (.builtin "object.__class__") "__get__" = some (some (.builtin "getset_descriptor.__get__"))
  htk : PySem.W.takesIn K (.builtin "object.__class__") = some true
  hm : PySem.W.mroIn K C (.type "object") = some true
  kk : PySem.W.kitOne K (.ref C) (.ref C) = some true
def spWEq (K : PySem.W.Frag) (C : Addr) : Sp := fun vs H Q _ => ∃ (x : Addr) (y : V) (ss : List (List Int)) (k : Nat), vs = [.ref x, y] ∧ WebAt K C H x ss k ∧
  ((∃ t, TyX K H y t ∧ PySem.W.kitOne K t (.ref C) = some false ∧ Q (.bl false) H) ∨ (∃ (x2 : Addr) (ss2 : List (List Int)) (k2 : Nat), y = .ref x2 ∧ WebAt K C H x2 ss2 k2 ∧ Q (.bl (PyData.eqv (dat ss) (dat ss2))) H))
theorem scWEq : FnScope ["self", "other"] ["self", "other"] (defScope sWEq) := ⟨rfl, rfl, rfl, by decide +kernel, rfl, by decide +kernel, by decide +kernel⟩
theorem ok_weq {f C : Addr} {fd : FuncData} (F : Fun K "__eq__" "Web.__eq__" sWEq f fd) (T : WebC K mg C) (TI : WebI K C) (mis : mg "isinstance" = none) : FnOk P w K mg base CX0 1 f fd ["self", "other"] (spWEq K C) := by
  refine F.ok scWEq (fun vs H Q E h => ?_) (fun cdv A outer s H vs Q E hr h => ?_)
  · obtain ⟨x, y, ss, k, rfl, _⟩ := h
    rfl
  · obtain ⟨x, y, ss, k, rfl, hW, q⟩ := h
    refine ⟨_, pss_one (ps_ret (pe_and (pe_callB call_isi (by rfl) mis (by decide +kernel) (pa_cons (pv 1) (pa_cons (pe_glob (v := .ref C) (by rfl) T.g rfl) pa_nil)))
      (pe_one (pe_cmpR (op_eqD hr.units) (pe_fld (pv 0) rfl) (pe_fld (pv 1) rfl) (nomark _))))), ?_⟩
    rcases q with ⟨t, ty, kt, q⟩ | ⟨x2, ss2, k2, rfl, hW2, q⟩
    · refine ⟨_, rfl, _, _, _, _, _, rfl, .own C, ty, kt, false, rfl, ?_⟩
      exact ite_ff q
    · obtain ⟨dx, p, qq, xs, h1, h2, h3, h4⟩ := hW
      obtain ⟨dx2, p2, qq2, xs2, g1, g2, g3, g4⟩ := hW2
      refine ⟨_, rfl, _, _, _, _, _, rfl, .own C, .base (.ins g1 T.cl TI.ha TI.hn TI.htk TI.hm), TI.kk, true, rfl, ?_⟩
      refine ite_tt ?_
      exact ⟨_, rfl, x, C, dx, _, _, rfl, h1, T.cl, T.nSt, wf_stars _ _, _, rfl, x2, C, dx2, _, _, rfl, g1, T.cl, T.nSt, wf_stars _ _, dat ss, dat ss2, dp_stars h2 h3, dp_stars g2 g3, shaped_dat _, shaped_dat _, q⟩
end
end Sg

/-! ==, != of an instance with an own ==. -/
namespace Sg
open PySem PySem.Spec PyProof.Rows L2 RZ SlX
section
variable {X : Cx} {C f : Addr} {fd : FuncData} {n : Nat} {ps : List Str} {sp : Sp} {E : XK} {CX : CXT}
/-- x == y, x an instance of the class at C, y of no class below it -/
def rWEq (K : PySem.W.Frag) (C : Addr) (sp : Sp) (E : XK) : R2 := fun x y H Q => ∃ (a dx : Addr) (fs : List (Str × V)) (t : Value), x = .ref a ∧ H a = some (.ins C dx fs) ∧ TyX K H y t ∧ PySem.W.notFirst K C t = true ∧ sp [x, y] H Q E
theorem op_weq (F : FnOk X.prog X.w X.K X.mg X.base CX n f fd ps sp) (hs : PySem.W.findIn X.K (.ref C) "__eq__" = some (some (.ref f))) (hf : PySem.W.isFn X.K (.ref f) = true) (hb : Binds X.K fd ps [])
    (hr : Room n X.A) (hx : Passes CX X E) : OpR X (compareOp .Eq) (rWEq X.K C sp E) := by
  intro pins s σ H x y v u Q I rx ry h
  obtain ⟨a, dx, fs, t, rfl, ha, ty, hn, q⟩ := h
  cases (show v = Value.ref a from rx)
  obtain ⟨mA, J, _⟩ := ins_get I.hok ha
  obtain ⟨od, J, _⟩ := J.look
  obtain ⟨m, hF⟩ := I.fr
  obtain ⟨P, kx, hP, _⟩ := kit_of I ry ty
  show wpAny _ _ (richCompare .Eq (.ref a) u) _ _ _
  refine PySem.W.cmp_K (op := .Eq) (tb := t) hr.units0 hF I.ok.mod.kin J (kx.ty _ _ I.kIn hP) hn hs hf ?_
  refine wpAny_mono (run_fn F hr hb .nil hx I (show Vals [V.ref a, y] [Value.ref a, u] from .cons rfl (.cons ry .nil)) q) (fun w s' z => ?_) fun _ _ x => x
  obtain ⟨z', H', I', rz, qz⟩ := z
  exact cmpback rz ⟨z', H', I', rz, qz⟩
end
section
variable {M : Model} {prog : Program} {w : World} {A : Around} {E : Value → Shared → Prop} {s : Shared} {K : PySem.W.Frag} {x C f : Addr} {ox : Obj} {od : Option Obj} {b t : Value}
theorem bound_ne {args : List Value} {Q : Option Value → Shared → Prop} (X : K.In s.heap) (I : PySem.W.InstAt s.heap x ox C od) (hs : PySem.W.findIn K (.ref C) "__ne__" = some (some (.builtin "object.__ne__")))
    (h : wpAny M A (call (.builtin "object.__ne__") (.ref x :: args)) (fun v => Q (some v)) E s) : wpAny M A (callSpecialIfBound? (.ref x) "__ne__" args) Q E s := by
  simp only [callSpecialIfBound?, bindSpecialIfBound?]
  refine wpAny_holding (wpAny_bind (wpAny_bind (wpAny_bind (I.type.here ((PySem.W.looks_findIn X hs).here ?_)))))
  refine wpAny_bind (wpAny_askSetting (wpAny_ite ?_))
  have fin : wpAny M A (call (.builtin "object.__ne__") ([.ref x] ++ args) >>= fun v => pure (some v)) Q E s := wpAny_bind (wpAny_mono h (fun v s' h' => wpAny_pure h') fun _ _ h' => h')
  split
  · exact wpAny_bind (wpAny_of_eq (F.cmp_object.ne.bind _) (wpAny_pure (by exact fin)))
  · exact wpAny_tryCatch (wpAny_bind (wpAny_of_eq (F.cmp_object.ne.bind _) (wpAny_pure (by exact fin))))
/-- object.__ne__ of an instance with an own == -/
theorem call_ne {Q : Value → Shared → Prop} (hu : A.units + 1 < cLine) (X : K.In s.heap) (I : PySem.W.InstAt s.heap x ox C od) (hm : PySem.W.mroIn K C (.type "object") = some true) (hs : PySem.W.findIn K (.ref C) "__eq__" = some (some (.ref f))) (hf : PySem.W.isFn K (.ref f) = true)
    (h : wpAny (model prog w) A.in1 (call (.ref f) [.ref x, b]) (fun v s' => ∃ c, v = .bool c ∧ Q (.bool (!c)) s') E s) : wpAny (model prog w) A (call (.builtin "object.__ne__") [.ref x, b]) Q E s := by
  refine wpAny_call (codeAny_call_builtin F.cmp_object.ne.plain F.cmpEntry_ne (PySem.W.check_slot F.cmpKind_ne F.cmpSplit_ne (I.type.andThen (PySem.W.looks_mroIn X hm)) (F.cmpArgs_ne _ _) ?_))
  unfold Builtin.«object.__ne__»
  repeat (first
    | with_reducible refine wpAny_cRoomFor hu ?_
    | (refine wpAny_bind (m := callSpecialIfBound? (.ref x) (Str.ofString "__eq__") [b])
        (PySem.W.ifBound_K X I hs hf (wpAny_mono h (fun r s' hr => by
          obtain ⟨c, rfl, hq⟩ := hr
          repeat (first | exact hq | exact wpAny_pure hq | exact wpAny_truthy_bool hq | (refine wpAny_bind (m := truthy (.bool _)) (wpAny_truthy_bool ?_)) | wp_step)) fun _ _ e => e)))
    | wp_step)
/-- x != b, x an instance with an own == -/
theorem ne_K {Q : Value → Shared → Prop} (hu : A.units + 1 < cLine) (X : K.In s.heap) (I : PySem.W.InstAt s.heap x ox C od) (hb : PySem.W.Looks (model prog w) s.heap (typeOf b) t) (hn : PySem.W.notFirst K C t = true)
    (hm : PySem.W.mroIn K C (.type "object") = some true) (hne : PySem.W.findIn K (.ref C) "__ne__" = some (some (.builtin "object.__ne__"))) (hs : PySem.W.findIn K (.ref C) "__eq__" = some (some (.ref f))) (hf : PySem.W.isFn K (.ref f) = true)
    (h : wpAny (model prog w) A.in1 (call (.ref f) [.ref x, b]) (fun v s' => ∃ c, v = .bool c ∧ Q (.bool (!c)) s') E s) : wpAny (model prog w) A (richCompare .NotEq (.ref x) b) Q E s := by
  have hone : wpAny (model prog w) A (tryCompare (.ref x) "__ne__" b) (fun r s' => ∃ c : Bool, r = some (.bool c) ∧ Q (.bool c) s') E s := by
    unfold tryCompare
    refine wpAny_bind (bound_ne X I hne (call_ne hu X I hm hs hf (wpAny_mono h (fun v s' hv => ?_) fun _ _ e => e)))
    obtain ⟨c, rfl, q⟩ := hv
    exact ⟨c, rfl, wpAny_pure ⟨_, rfl, q⟩⟩
  unfold richCompare
  simp only [oneThing_ref]
  refine wpAny_holding (wpAny_bind (wpAny_cRoomFor (Nat.lt_of_succ_lt hu) ?_))
  rw [cmpInfo_NotEq]
  refine wpAny_bind (I.type.here (wpAny_bind (hb.here ?_)))
  split
  · rename_i q
    have e : PySem.W.subIn K t (.ref C) = some false := by
      rcases Bool.or_eq_true_iff.mp hn with e | e
      · rw [beq_iff_eq.mp e] at q; simp at q
      · exact beq_iff_eq.mp e
    refine wpAny_bind ((PySem.W.looks_subIn X e).here ?_)
    simp only [Bool.false_eq_true, if_false]
    refine wpAny_bind (wpAny_mono hone (fun r s' z => ?_) fun _ _ e => e)
    obtain ⟨c, rfl, hq⟩ := z
    exact wpAny_pure hq
  · refine wpAny_bind (wpAny_pure ?_)
    simp only [Bool.false_eq_true, if_false]
    refine wpAny_bind (wpAny_mono hone (fun r s' z => ?_) fun _ _ e => e)
    obtain ⟨c, rfl, hq⟩ := z
    exact wpAny_pure hq
/-- b == x, b of a built-in type that knows nothing of x -/
theorem back_K {T : String} {Q : Value → Shared → Prop} (hu : A.units < cLine) (X : K.In s.heap) (I : PySem.W.InstAt s.heap x ox C od) (hT : s.TypeIs b T) (hsub : PySem.W.subIn K (.ref C) (.type T) = some false)
    (hdec : wpAny (model prog w) A (tryCompare b "__eq__" (.ref x)) (fun r s' => r = none ∧ s' = s) E s) (hs : PySem.W.findIn K (.ref C) "__eq__" = some (some (.ref f))) (hf : PySem.W.isFn K (.ref f) = true)
    (h : wpAny (model prog w) A (call (.ref f) [.ref x, b]) (PySem.W.CmpBack Q) E s) : wpAny (model prog w) A (richCompare .Eq b (.ref x)) Q E s := by
  have htwo : wpAny (model prog w) A (tryCompare (.ref x) "__eq__" b) (fun r s' => ∃ v, r = some v ∧ Q v s') E s := by
    unfold tryCompare
    refine wpAny_bind (PySem.W.ifBound_K X I hs hf (wpAny_mono h (fun v s' hv => ?_) fun _ _ e => e))
    cases v <;> first | exact hv.elim | exact wpAny_pure ⟨_, rfl, hv⟩
  unfold richCompare
  simp only [hT.oneThing_none]
  refine wpAny_holding (wpAny_bind (wpAny_cRoomFor hu ?_))
  rw [cmpInfo_Eq]
  refine wpAny_bind (wpAny_typeOf hT (wpAny_bind (I.type.here ?_)))
  split
  · refine wpAny_bind ((PySem.W.looks_subIn X hsub).here ?_)
    simp only [Bool.false_eq_true, if_false, Bool.not_false, if_true]
    refine wpAny_bind (m := tryCompare b _ (.ref x)) (wpAny_mono hdec (fun r s1 z => ?_) fun _ _ e => e)
    obtain ⟨rfl, rfl⟩ := z
    refine wpAny_bind (m := tryCompare (.ref x) _ b) (wpAny_mono htwo (fun r s' z => ?_) fun _ _ e => e)
    obtain ⟨v, rfl, hq⟩ := z
    exact wpAny_pure hq
  · rename_i q
    exact absurd (by simp) q
end
end Sg

/-! values of built-in types know nothing of an instance: their == declines. -/
namespace Sg
open PySem PySem.Spec PyProof.Rows L2 RZ SlX PySem.SeqAt
open PySem.AutoSeq1 (wpAny_loadPart')
section
variable {prog : Program} {w : World} {x : Addr}
/-- the instance at x is none of the type T, where s stands -/
def NotA (prog : Program) (w : World) (x : Addr) (T : String) (s : Shared) : Prop := ∀ (A : Around) (Q : Bool → Shared → Prop) (E : Value → Shared → Prop), Q false s → wpAny (model prog w) A (isInstance (.ref x) (.type T)) Q E s
variable {A : Around} {E : Value → Shared → Prop} {s : Shared}
theorem dec_non : wpAny (model prog w) A (tryCompare .none "__eq__" (.ref x)) (fun r s' => r = none ∧ s' = s) E s :=
  wpAny_tryCompare_declines (show s.TypeIs .none "NoneType" from rfl) F.slot_NoneType_eq (call_gives F.slot_NoneType_eq rfl F.entry_NoneType_eq (F.args_NoneType_eq_2 _ _) (NoneType___eq___none_ref_0 x) ⟨rfl, rfl, rfl⟩)
theorem dec_tup {l : Addr} {its : Array Value} (hl : s.heap.IsTuple l its) (hi : NotA prog w x "tuple" s) : wpAny (model prog w) A (tryCompare (.ref l) "__eq__" (.ref x)) (fun r s' => r = none ∧ s' = s) E s := by
  refine wpAny_tryCompare_declines hl.typeIs F.slot_tuple_eq (wpAny_call_entry F.slot_tuple_eq hl.typeIs F.entry_tuple_eq ?_ (F.args_tuple_eq_2 _ _))
  obtain ⟨hp, g, d, tk, os⟩ := s
  have hi' : ∀ {A : Around} {Q : Bool → Shared → Prop} {E : Value → Shared → Prop}, Q false ⟨hp, g, d, tk, os⟩ → wpAny (model prog w) A (isInstance (.ref x) (.type "tuple")) Q E ⟨hp, g, d, tk, os⟩ := fun q => hi _ _ _ q
  obtain ⟨o, ho, hc, n, hd⟩ := hl
  wp_walk using hi'
  exact ⟨_, rfl, rfl, rfl, rfl⟩
theorem dec_lst {l : Addr} {its : Array Value} (hl : s.heap.IsList l its) (hi : NotA prog w x "list" s) : wpAny (model prog w) A (tryCompare (.ref l) "__eq__" (.ref x)) (fun r s' => r = none ∧ s' = s) E s := by
  refine wpAny_tryCompare_declines hl.typeIs F.slot_list_eq (wpAny_call_entry F.slot_list_eq hl.typeIs F.entry_list_eq ?_ (F.args_list_eq_2 _ _))
  obtain ⟨hp, g, d, tk, os⟩ := s
  have hi' : ∀ {A : Around} {Q : Bool → Shared → Prop} {E : Value → Shared → Prop}, Q false ⟨hp, g, d, tk, os⟩ → wpAny (model prog w) A (isInstance (.ref x) (.type "list")) Q E ⟨hp, g, d, tk, os⟩ := fun q => hi _ _ _ q
  obtain ⟨o, ho, hc, n, hd⟩ := hl
  wp_walk using hi'
  exact ⟨_, rfl, rfl, rfl, rfl⟩
theorem dec_int {i : Int} {t : Tok} {ox : Obj} (hx : s.heap.get? x = some ox) (hd : ox.data = .plain) : wpAny (model prog w) A (tryCompare (.int i t) "__eq__" (.ref x)) (fun r s' => r = none ∧ s' = s) E s := by
  refine wpAny_tryCompare_declines (typeIs_int s i t) F.slot_int_eq (wpAny_call_entry F.slot_int_eq (typeIs_int s i t) F.entry_int_eq ?_ (F.args_int_eq_2 _ _))
  obtain ⟨hp, g, d, tk, os⟩ := s
  obtain ⟨c, dd, dt, sl⟩ := ox
  replace hd : dt = .plain := hd
  subst hd
  wp_walk using wpAny_loadPart' hx
  exact ⟨_, rfl, rfl, rfl, rfl⟩
theorem dec_str {i : Str} {t : Tok} {ox : Obj} (hx : s.heap.get? x = some ox) (hd : ox.data = .plain) : wpAny (model prog w) A (tryCompare (.str i t) "__eq__" (.ref x)) (fun r s' => r = none ∧ s' = s) E s := by
  refine wpAny_tryCompare_declines (typeIs_str s i t) F.slot_str_eq (wpAny_call_entry F.slot_str_eq (typeIs_str s i t) F.entry_str_eq ?_ (F.args_str_eq_2 _ _))
  obtain ⟨hp, g, d, tk, os⟩ := s
  obtain ⟨c, dd, dt, sl⟩ := ox
  replace hd : dt = .plain := hd
  subst hd
  wp_walk using wpAny_loadPart' hx
  exact ⟨_, rfl, rfl, rfl, rfl⟩
theorem dec_dic {l : Addr} {o : Obj} (ho : s.heap.get? l = some o) (hc : o.cls = .type "dict") (hi : NotA prog w x "dict" s) : wpAny (model prog w) A (tryCompare (.ref l) "__eq__" (.ref x)) (fun r s' => r = none ∧ s' = s) E s := by
  have hT : s.TypeIs (.ref l) "dict" := ⟨o, ho, hc⟩
  refine wpAny_tryCompare_declines hT F.slot_dict_eq (wpAny_call_entry F.slot_dict_eq hT F.entry_dict_eq ?_ (F.args_dict_eq_2 _ _))
  obtain ⟨hp, g, d, tk, os⟩ := s
  have hi' : ∀ {A : Around} {Q : Bool → Shared → Prop} {E : Value → Shared → Prop}, Q false ⟨hp, g, d, tk, os⟩ → wpAny (model prog w) A (isInstance (.ref x) (.type "dict")) Q E ⟨hp, g, d, tk, os⟩ := fun q => hi _ _ _ q
  wp_walk using hi'
  exact ⟨_, rfl, rfl, rfl, rfl⟩
end
section
variable {X : Cx} {C f : Addr} {fd : FuncData} {n : Nat} {ps : List Str} {sp : Sp} {E : XK} {CX : CXT}
/-- values of built-in types -/
inductive Blt (K : PySem.W.Frag) (H : Hp) : V → String → Prop
  | non : Blt K H .non "NoneType"
  | int (i : Int) : Blt K H (.int i) "int"
  | str (z : Str) : Blt K H (.str z) "str"
  | tup {a : Addr} {xs : List V} (h : SqT K H a xs) : Blt K H (.ref a) "tuple"
  | lst {a : Addr} {xs : List V} (h : SqL K H a xs) : Blt K H (.ref a) "list"
  | dic {a : Addr} {kvs : List (Key × V)} (h : H a = some (.dK kvs)) : Blt K H (.ref a) "dict"
/-- what is asked of the class: no built-in type stands above it -/
def SubNo (K : PySem.W.Frag) (C : Addr) : Prop := ∀ T, T ∈ ["NoneType", "int", "str", "tuple", "list", "dict"] → PySem.W.subIn K (.ref C) (.type T) = some false
def rBack (K : PySem.W.Frag) (C : Addr) (sp : Sp) (E : XK) : R2 := fun x y H Q => ∃ (a dx : Addr) (fs : List (Str × V)) (T : String), y = .ref a ∧ H a = some (.ins C dx fs) ∧ Blt K H x T ∧ sp [y, x] H Q E
theorem op_back (F : FnOk X.prog X.w X.K X.mg X.base CX n f fd ps sp) (hs : PySem.W.findIn X.K (.ref C) "__eq__" = some (some (.ref f))) (hf : PySem.W.isFn X.K (.ref f) = true) (hb : Binds X.K fd ps [])
    (hsub : SubNo X.K C) (hr : Room n X.A) (hx : Passes CX X E) : OpR X (compareOp .Eq) (rBack X.K C sp E) := by
  intro pins s σ H x y v u Q I rx ry h
  obtain ⟨a, dx, fs, T, rfl, ha, hT, q⟩ := h
  cases (show u = Value.ref a from ry)
  obtain ⟨mA, J, _⟩ := ins_get I.hok ha
  obtain ⟨od, J, _⟩ := J.look
  show wpAny _ _ (richCompare .Eq v (.ref a)) _ _ _
  have hcall : wpAny (model X.prog X.w) X.A (call (.ref f) [.ref a, v]) (PySem.W.CmpBack (EP X pins σ Q)) X.xe s := by
    refine wpAny_mono (run_fn F hr hb .nil hx I (show Vals [V.ref a, x] [Value.ref a, v] from .cons rfl (.cons rx .nil)) q) (fun w s' z => ?_) fun _ _ x => x
    obtain ⟨z', H', I', rz, qz⟩ := z
    exact cmpback rz ⟨z', H', I', rz, qz⟩
  have hnot : ∀ T, T ∈ ["NoneType", "int", "str", "tuple", "list", "dict"] → NotA X.prog X.w a T s := fun T hT A Q E q => by
    unfold isInstance
    exact wpAny_bind (J.type.here ((PySem.W.looks_subIn I.kIn (hsub T hT)).here q))
  cases hT with
  | non =>
    cases (show v = Value.none from rx)
    exact back_K hr.units0 I.kIn J (show s.TypeIs .none "NoneType" from rfl) (hsub _ (by simp)) dec_non hs hf hcall
  | int i =>
    obtain ⟨t, rfl⟩ := (show ∃ t, v = Value.int i t from rx)
    exact back_K hr.units0 I.kIn J (typeIs_int s i t) (hsub _ (by simp)) (dec_int J.at_ rfl) hs hf hcall
  | str z =>
    obtain ⟨t, rfl⟩ := (show ∃ t, v = Value.str z t from rx)
    exact back_K hr.units0 I.kIn J (typeIs_str s z t) (hsub _ (by simp)) (dec_str J.at_ rfl) hs hf hcall
  | @tup b xs h =>
    cases (show v = Value.ref b from rx)
    obtain ⟨its, rv, p, hz⟩ := I.tuple h
    exact back_K hr.units0 I.kIn J p.typeIs (hsub _ (by simp)) (dec_tup p (hnot _ (by simp))) hs hf hcall
  | @lst b xs h =>
    cases (show v = Value.ref b from rx)
    obtain ⟨its, rv, p, hz⟩ := I.list h
    exact back_K hr.units0 I.kIn J p.isList.typeIs (hsub _ (by simp)) (dec_lst p.isList (hnot _ (by simp))) hs hf hcall
  | @dic b kvs h =>
    cases (show v = Value.ref b from rx)
    obtain ⟨_, hs', vs, kv, o, es, ep, h1, h2, h3, h4⟩ := (show ObjOk X.prog X.w H s.heap b (.dK kvs) from I.hok b _ h)
    exact back_K hr.units0 I.kIn J ⟨o, h1, h2.1⟩ (hsub _ (by simp)) (dec_dic h1 h2.1 (hnot _ (by simp))) hs hf hcall
/-- a call one deeper -/
theorem run_in1 {pins : List (Addr × Obj)} {σ : L2.St} {H : Hp} {s : Shared} {Q : VK} {us : List Value} {vs : List V} (F : FnOk X.prog X.w X.K X.mg X.base CX n f fd ps sp) (hr : Room (n + 1) X.A) (hb : Binds X.K fd ps []) (hx : Passes CX X E)
    (I : Inv X pins σ H s) (r : Vals vs us) (h : sp vs H Q E) : wpAny (model X.prog X.w) X.A.in1 (call (.ref f) us) (EP X pins σ Q) X.xe s := by
  have hl : us.length = ps.length := by rw [← r.length]; exact F.len _ _ _ _ h
  have hbs := hb s us I.kIn (by rw [List.append_nil]; exact hl)
  rw [List.append_nil] at hbs
  refine wpAny_call (codeAny_mono (F.run X.A.in1 X.stack s H ⟨us, []⟩ us vs Q E hr.in1 I.env0.in1 hbs r h) fun r s' hq => ?_)
  cases r with
  | ok fl =>
    cases fl with
    | ret u => exact I.after hq
    | next | brk | cont => exact False.elim hq
  | error e => exact hx pins σ H s e s' I hq
def rWNe (K : PySem.W.Frag) (C : Addr) (sp : Sp) (E : XK) : R2 := fun x y H Q => ∃ (a dx : Addr) (fs : List (Str × V)) (t : Value), x = .ref a ∧ H a = some (.ins C dx fs) ∧ TyX K H y t ∧ PySem.W.notFirst K C t = true ∧ sp [x, y] H (fun z H' => ∃ c : Bool, z = .bl c ∧ Q (.bl (!c)) H') E
theorem op_wne (F : FnOk X.prog X.w X.K X.mg X.base CX n f fd ps sp) (hs : PySem.W.findIn X.K (.ref C) "__eq__" = some (some (.ref f))) (hf : PySem.W.isFn X.K (.ref f) = true) (hb : Binds X.K fd ps [])
    (hm : PySem.W.mroIn X.K C (.type "object") = some true) (hne : PySem.W.findIn X.K (.ref C) "__ne__" = some (some (.builtin "object.__ne__"))) (hr : Room (n + 1) X.A) (hx : Passes CX X E) : OpR X (compareOp .NotEq) (rWNe X.K C sp E) := by
  intro pins s σ H x y v u Q I rx ry h
  obtain ⟨a, dx, fs, t, rfl, ha, ty, hn, q⟩ := h
  cases (show v = Value.ref a from rx)
  obtain ⟨mA, J, _⟩ := ins_get I.hok ha
  obtain ⟨od, J, _⟩ := J.look
  obtain ⟨P, kx, hP, _⟩ := kit_of I ry ty
  show wpAny _ _ (richCompare .NotEq (.ref a) u) _ _ _
  refine ne_K hr.in1.units0 I.kIn J (kx.ty _ _ I.kIn hP) hn hm hne hs hf ?_
  refine wpAny_mono (run_in1 F hr hb hx I (show Vals [V.ref a, y] [Value.ref a, u] from .cons rfl (.cons ry .nil)) q) (fun w s' z => ?_) fun _ _ x => x
  obtain ⟨z', H', I', rz, c, rfl, qz⟩ := z
  cases (show w = Value.bool c from rz)
  exact ⟨c, rfl, .bl (!c), H', I', rfl, qz⟩
end
end Sg

namespace Sg
open PySem PySem.Spec PyProof.Rows L2 Gx Sx
abbrev sClass : Stmt := topS 27
def wd : Nat → Str
  | 0 => "BadStars"
  | 1 => "BadEnds"
  | 2 => "BadDeed"
  | 3 => "BadText"
  | 4 => "BadSet"
  | 5 => "BadNumber"
  | 6 => "BadTree"
  | 7 => "TooGreat"
  | 8 => "BadName"
  | 9 => "OtherTies"
  | 10 => "Apart"
  | 11 => "NothingLeft"
  | _ => ""
def rho : Nat → Nat
  | 0 => 0
  | 1 => 1
  | 2 => 4
  | 3 => 2
  | 4 => 5
  | 5 => 9
  | 6 => 8
  | 7 => 10
  | 8 => 6
  | 9 => 3
  | 10 => 11
  | 11 => 7
  | _ => 0
def fld (i : Nat) : Str := if i < 4 then "place" else if i = 7 then "most" else "value"
/-- an exception of the class at D stands at a -/
def ExOf (H : Hp) (a D : Addr) : Prop := ∃ d, H a = some (exV a D d) ∧ ∀ dd, d = some dd → ∃ fs, H dd = some (.xd fs)
theorem ExOf.same {H H' : Hp} {a D : Addr} (h : ExOf H a D) (s : Same H H') : ExOf H' a D := let ⟨d, h1, h2⟩ := h; ⟨d, s _ _ h1, fun dd z => let ⟨fs, q⟩ := h2 dd z; ⟨fs, s _ _ q⟩⟩
theorem exOf_e {H : Hp} {a C : Addr} {f : Str} {v : V} (h : IsE H a C f v) : ExOf H a C := let ⟨d, h1, h2⟩ := h; ⟨some d, h1, fun dd z => ⟨_, by cases z; exact h2⟩⟩
theorem exOf_n {H : Hp} {a C : Addr} (h : IsN H a C) : ExOf H a C := ⟨none, h, fun _ z => nomatch z⟩
structure Row (P : Program) (K : PySem.W.Frag) (mg : Str → Option Value) (x : Str) (C : Addr) (f : Str) : Prop where
  g : mg x = some (.ref C)
  k : PySem.W.keepIn K (.ref C) = true
  m1 : MkF P K mg C f (fun v => ⟨[v], []⟩)
  mK : MkF P K mg C f (fun v => ⟨[], [(f, v)]⟩)
  rd : RdC K C f
  ex : L2.ExcC K C
structure RowN (P : Program) (K : PySem.W.Frag) (mg : Str → Option Value) (x : Str) (C : Addr) : Prop where
  g : mg x = some (.ref C)
  k : PySem.W.keepIn K (.ref C) = true
  m0 : MkN P K mg C
  ex : L2.ExcC K C
structure Errs (P : Program) (K : PySem.W.Frag) (mg : Str → Option Value) (c0 c1 c2 c3 c4 c5 c6 c7 c8 c9 c10 c11 cR : Addr) : Prop where
  r0 : Row P K mg "BadStars" c0 "place"
  r1 : Row P K mg "BadEnds" c1 "place"
  r2 : Row P K mg "BadDeed" c2 "place"
  r3 : Row P K mg "BadText" c3 "place"
  r4 : Row P K mg "BadSet" c4 "value"
  r5 : Row P K mg "BadNumber" c5 "value"
  r6 : Row P K mg "BadTree" c6 "value"
  r7 : Row P K mg "TooGreat" c7 "most"
  r8 : Row P K mg "BadName" c8 "value"
  r9 : RowN P K mg "OtherTies" c9
  r10 : RowN P K mg "Apart" c10
  r11 : RowN P K mg "NothingLeft" c11
  gR : mg "RoundError" = some (.ref cR)
  kk : ∀ (i j : Nat) (a b : Addr), [c0, c1, c2, c3, c4, c5, c6, c7, c8, c9, c10, c11][i]? = some a → [c0, c1, c2, c3, c4, c5, c6, c7, c8, c9, c10, c11][j]? = some b → PySem.W.kitOne K (.ref a) (.ref b) = some (decide (i = j))
  kR : ∀ (i : Nat) (a : Addr), [c0, c1, c2, c3, c4, c5, c6, c7, c8, c9, c10, c11][i]? = some a → PySem.W.kitOne K (.ref a) (.ref cR) = some (decide (i ≠ 7))
  kV : ∀ (i : Nat) (a : Addr), [c0, c1, c2, c3, c4, c5, c6, c7, c8, c9, c10, c11][i]? = some a → PySem.W.kitOne K (.ref a) (.type "ValueError") = some (decide (i ≠ 7))
  kO : ∀ (i : Nat) (a : Addr), [c0, c1, c2, c3, c4, c5, c6, c7, c8, c9, c10, c11][i]? = some a → PySem.W.kitOne K (.ref a) (.type "OverflowError") = some (decide (i = 7))
theorem Errs.ex {P : Program} {K : PySem.W.Frag} {mg : Str → Option Value} {c0 c1 c2 c3 c4 c5 c6 c7 c8 c9 c10 c11 cR : Addr} (T : Errs P K mg c0 c1 c2 c3 c4 c5 c6 c7 c8 c9 c10 c11 cR) {i : Nat} {a : Addr} (h : [c0, c1, c2, c3, c4, c5, c6, c7, c8, c9, c10, c11][i]? = some a) : L2.ExcC K a := by
  have hi := (List.getElem?_eq_some_iff.mp h).1
  simp only [List.length_cons, List.length_nil] at hi
  match i, hi, h with
  | 0, _, h => cases h; exact T.r0.ex
  | 1, _, h => cases h; exact T.r1.ex
  | 2, _, h => cases h; exact T.r2.ex
  | 3, _, h => cases h; exact T.r3.ex
  | 4, _, h => cases h; exact T.r4.ex
  | 5, _, h => cases h; exact T.r5.ex
  | 6, _, h => cases h; exact T.r6.ex
  | 7, _, h => cases h; exact T.r7.ex
  | 8, _, h => cases h; exact T.r8.ex
  | 9, _, h => cases h; exact T.r9.ex
  | 10, _, h => cases h; exact T.r10.ex
  | 11, _, h => cases h; exact T.r11.ex
theorem Errs.rd {P : Program} {K : PySem.W.Frag} {mg : Str → Option Value} {c0 c1 c2 c3 c4 c5 c6 c7 c8 c9 c10 c11 cR : Addr} (T : Errs P K mg c0 c1 c2 c3 c4 c5 c6 c7 c8 c9 c10 c11 cR) {i : Nat} {a : Addr} (h : [c0, c1, c2, c3, c4, c5, c6, c7, c8, c9, c10, c11][i]? = some a) (hi : i < 9) : RdC K a (fld i) := by
  match i, hi, h with
  | 0, _, h => cases h; exact T.r0.rd
  | 1, _, h => cases h; exact T.r1.rd
  | 2, _, h => cases h; exact T.r2.rd
  | 3, _, h => cases h; exact T.r3.rd
  | 4, _, h => cases h; exact T.r4.rd
  | 5, _, h => cases h; exact T.r5.rd
  | 6, _, h => cases h; exact T.r6.rd
  | 7, _, h => cases h; exact T.r7.rd
  | 8, _, h => cases h; exact T.r8.rd
theorem lookE {f : Str} {v : V} : List.lookup f [(f, v)] = some v := by simp [List.lookup]
/-- the words that are told -/
def acc (i j : Nat) : List V := ((List.range j).filter fun k => decide (i = rho k)).map fun k => .str (wd (rho k))
theorem acc_all {i : Nat} (hi : i < 12) : acc i 12 = [.str (wd i)] := by
  match i, hi with
  | 0, _ => rfl
  | 1, _ => rfl
  | 2, _ => rfl
  | 3, _ => rfl
  | 4, _ => rfl
  | 5, _ => rfl
  | 6, _ => rfl
  | 7, _ => rfl
  | 8, _ => rfl
  | 9, _ => rfl
  | 10, _ => rfl
  | 11, _ => rfl
theorem acc_len (i j : Nat) : (acc i j).length ≤ j := by
  unfold acc
  rw [List.length_map]
  exact Nat.le_trans (List.length_filter_le _ _) (by rw [List.length_range]; exact Nat.le_refl _)
theorem acc_tt {i j : Nat} (h : i = rho j) : acc i (j + 1) = acc i j ++ [.str (wd (rho j))] := by
  unfold acc
  rw [List.range_succ, List.filter_append, List.map_append]
  simp [h]
theorem acc_ff {i j : Nat} (h : ¬ i = rho j) : acc i (j + 1) = acc i j := by
  unfold acc
  rw [List.range_succ, List.filter_append, List.map_append]
  simp [h]
theorem in_p {i : Nat} (hi : i < 12) : inV (.str (wd i)) [.str "BadStars", .str "BadEnds", .str "BadDeed", .str "BadText"] = decide (i < 4) := by
  match i, hi with
  | 0, _ => decide +kernel
  | 1, _ => decide +kernel
  | 2, _ => decide +kernel
  | 3, _ => decide +kernel
  | 4, _ => decide +kernel
  | 5, _ => decide +kernel
  | 6, _ => decide +kernel
  | 7, _ => decide +kernel
  | 8, _ => decide +kernel
  | 9, _ => decide +kernel
  | 10, _ => decide +kernel
  | 11, _ => decide +kernel
theorem in_v {i : Nat} (hi : i < 12) : inV (.str (wd i)) [.str "BadSet", .str "BadNumber", .str "BadTree", .str "BadName"] = decide (i = 4 ∨ i = 5 ∨ i = 6 ∨ i = 8) := by
  match i, hi with
  | 0, _ => decide +kernel
  | 1, _ => decide +kernel
  | 2, _ => decide +kernel
  | 3, _ => decide +kernel
  | 4, _ => decide +kernel
  | 5, _ => decide +kernel
  | 6, _ => decide +kernel
  | 7, _ => decide +kernel
  | 8, _ => decide +kernel
  | 9, _ => decide +kernel
  | 10, _ => decide +kernel
  | 11, _ => decide +kernel
theorem is_most {i : Nat} (hi : i < 12) : decide (V.str (wd i) = V.str "TooGreat") = decide (i = 7) := by
  match i, hi with
  | 0, _ => decide +kernel
  | 1, _ => decide +kernel
  | 2, _ => decide +kernel
  | 3, _ => decide +kernel
  | 4, _ => decide +kernel
  | 5, _ => decide +kernel
  | 6, _ => decide +kernel
  | 7, _ => decide +kernel
  | 8, _ => decide +kernel
  | 9, _ => decide +kernel
  | 10, _ => decide +kernel
  | 11, _ => decide +kernel
/-- what is told of an exception -/
def res (i : Nat) (v : V) : List V := if i < 9 then [.str (wd i), v] else [.str (wd i)]
section
variable {P : Program} {w : World} {K : PySem.W.Frag} {mg : Str → Option Value} {base : Heap}
def spClass (K : PySem.W.Frag) (cs : List Addr) : Sp := fun vs H Q _ => ∃ (e D : Addr) (i : Nat) (v : V), vs = [.ref e] ∧ i < 12 ∧ cs[i]? = some D ∧ ExOf H e D ∧ (i < 9 → IsE H e D (fld i) v) ∧ ∀ H' p, Same H H' → H' p = some (.tup (res i v)) → Q (.ref p) H'
theorem scClass : FnScope ["error", "rows", "words", "word", "holds"] ["error"] (defScope sClass) := ⟨rfl, rfl, rfl, by decide +kernel, rfl, by decide +kernel, by decide +kernel⟩
theorem ok_class {f c0 c1 c2 c3 c4 c5 c6 c7 c8 c9 c10 c11 cR : Addr} {fd : FuncData} (F : Fun K "_law_class" "_law_class" sClass f fd) (T : Errs P K mg c0 c1 c2 c3 c4 c5 c6 c7 c8 c9 c10 c11 cR) (mis : mg "isinstance" = none) (mle : mg "len" = none) : FnOk P w K mg base CX0 1 f fd ["error"] (spClass K [c0, c1, c2, c3, c4, c5, c6, c7, c8, c9, c10, c11]) := by
  refine F.ok scClass (fun vs H Q E h => ?_) (fun cdv A outer s H vs Q E hr h => ?_)
  · obtain ⟨e, D, i, v, rfl, _⟩ := h
    rfl
  · obtain ⟨e, D, i, v, rfl, hi, hc, xo, xf, k⟩ := h
    refine ⟨_, (pss_cons (ps_set (i := 1) scClass.nd rfl (.inl rfl) (pe_lst (pa_cons (pe_tup (pa_cons pe_str (pa_cons (pe_callB call_isX (by rfl) mis (by decide +kernel) (pa_cons (pv 0) (pa_cons (pe_glob (v := .ref c0) (by rfl) T.r0.g rfl) pa_nil))) pa_nil))) (pa_cons (pe_tup (pa_cons pe_str (pa_cons (pe_callB call_isX (by rfl) mis (by decide +kernel) (pa_cons (pv 0) (pa_cons (pe_glob (v := .ref c1) (by rfl) T.r1.g rfl) pa_nil))) pa_nil))) pa_nil))))
      (pss_cons (ps_set (i := 1) scClass.nd rfl (.inl rfl) (pe_op op_cat (pv 1) (pe_lst (pa_cons (pe_tup (pa_cons pe_str (pa_cons (pe_callB call_isX (by rfl) mis (by decide +kernel) (pa_cons (pv 0) (pa_cons (pe_glob (v := .ref c4) (by rfl) T.r4.g rfl) pa_nil))) pa_nil))) (pa_cons (pe_tup (pa_cons pe_str (pa_cons (pe_callB call_isX (by rfl) mis (by decide +kernel) (pa_cons (pv 0) (pa_cons (pe_glob (v := .ref c2) (by rfl) T.r2.g rfl) pa_nil))) pa_nil))) pa_nil)))))
      (pss_cons (ps_set (i := 1) scClass.nd rfl (.inl rfl) (pe_op op_cat (pv 1) (pe_lst (pa_cons (pe_tup (pa_cons pe_str (pa_cons (pe_callB call_isX (by rfl) mis (by decide +kernel) (pa_cons (pv 0) (pa_cons (pe_glob (v := .ref c5) (by rfl) T.r5.g rfl) pa_nil))) pa_nil))) (pa_cons (pe_tup (pa_cons pe_str (pa_cons (pe_callB call_isX (by rfl) mis (by decide +kernel) (pa_cons (pv 0) (pa_cons (pe_glob (v := .ref c9) (by rfl) T.r9.g rfl) pa_nil))) pa_nil))) pa_nil)))))
      (pss_cons (ps_set (i := 1) scClass.nd rfl (.inl rfl) (pe_op op_cat (pv 1) (pe_lst (pa_cons (pe_tup (pa_cons pe_str (pa_cons (pe_callB call_isX (by rfl) mis (by decide +kernel) (pa_cons (pv 0) (pa_cons (pe_glob (v := .ref c8) (by rfl) T.r8.g rfl) pa_nil))) pa_nil))) (pa_cons (pe_tup (pa_cons pe_str (pa_cons (pe_callB call_isX (by rfl) mis (by decide +kernel) (pa_cons (pv 0) (pa_cons (pe_glob (v := .ref c10) (by rfl) T.r10.g rfl) pa_nil))) pa_nil))) pa_nil)))))
      (pss_cons (ps_set (i := 1) scClass.nd rfl (.inl rfl) (pe_op op_cat (pv 1) (pe_lst (pa_cons (pe_tup (pa_cons pe_str (pa_cons (pe_callB call_isX (by rfl) mis (by decide +kernel) (pa_cons (pv 0) (pa_cons (pe_glob (v := .ref c6) (by rfl) T.r6.g rfl) pa_nil))) pa_nil))) (pa_cons (pe_tup (pa_cons pe_str (pa_cons (pe_callB call_isX (by rfl) mis (by decide +kernel) (pa_cons (pv 0) (pa_cons (pe_glob (v := .ref c3) (by rfl) T.r3.g rfl) pa_nil))) pa_nil))) pa_nil)))))
      (pss_cons (ps_set (i := 1) scClass.nd rfl (.inl rfl) (pe_op op_cat (pv 1) (pe_lst (pa_cons (pe_tup (pa_cons pe_str (pa_cons (pe_callB call_isX (by rfl) mis (by decide +kernel) (pa_cons (pv 0) (pa_cons (pe_glob (v := .ref c11) (by rfl) T.r11.g rfl) pa_nil))) pa_nil))) (pa_cons (pe_tup (pa_cons pe_str (pa_cons (pe_callB call_isX (by rfl) mis (by decide +kernel) (pa_cons (pv 0) (pa_cons (pe_glob (v := .ref c7) (by rfl) T.r7.g rfl) pa_nil))) pa_nil))) pa_nil)))))
      (pss_cons (ps_setLc (i := 2) (own := [("word", 3), ("holds", 4)]) (g := gTup K 2 (gCons (gName 3) (gCons (gName 4) gNil))) rfl scClass.nd rfl rfl (sw_true rfl rfl rfl (by decide +kernel)) (pi_list (pv 1)) (blkOk_by (own := [("word", 3), ("holds", 4)]) (N := ["error", "rows", "words", "word", "holds"]) (sc := defScope sClass) (by decide +kernel))
          (fun _ _ _ _ _ => pg_tup rfl (pgs_cons (pg_name (i := 3) scClass.nd rfl (Or.inl rfl)) (pgs_cons (pg_name (i := 4) scClass.nd rfl (Or.inl rfl)) pgs_nil))) (fun _ _ _ _ _ => pts_one (pt_val (pv 4))) (fun _ _ _ _ _ => pv 3))
      (pss_cons (ps_if (pt_cmpR op_ne (pe_callB call_len_seq (by rfl) mle PySem.boot_len (pa_cons (pv 2) pa_nil)) pe_int (nomark _)) (pss_one (ps_ret (pe_tup (pa_cons pe_str pa_nil)))) pss_nil)
      (pss_cons (ps_if (pt_cmpR op_in_seq (pe_ix ix_list (pv 2) pe_int (fun _ _ => rfl)) (pe_tup (pa_cons pe_str (pa_cons pe_str (pa_cons pe_str (pa_cons pe_str pa_nil))))) (by with_unfolding_all rfl)) (pss_one (ps_ret (pe_tup (pa_cons (pe_ix ix_list (pv 2) pe_int (fun _ _ => rfl)) (pa_cons (pe_exF (pv 0)) pa_nil))))) pss_nil)
      (pss_cons (ps_if (pt_cmpR op_in_seq (pe_ix ix_list (pv 2) pe_int (fun _ _ => rfl)) (pe_tup (pa_cons pe_str (pa_cons pe_str (pa_cons pe_str (pa_cons pe_str pa_nil))))) (by with_unfolding_all rfl)) (pss_one (ps_ret (pe_tup (pa_cons (pe_ix ix_list (pv 2) pe_int (fun _ _ => rfl)) (pa_cons (pe_exF (pv 0)) pa_nil))))) pss_nil)
      (pss_one (ps_ret (pe_ifExp (pt_cmpR op_eq (pe_ix ix_list (pv 2) pe_int (fun _ _ => rfl)) pe_str (nomark _)) (pe_tup (pa_cons (pe_ix ix_list (pv 2) pe_int (fun _ _ => rfl)) (pa_cons (pe_exF (pv 0)) pa_nil))) (pe_tup (pa_cons (pe_ix ix_list (pv 2) pe_int (fun _ _ => rfl)) pa_nil))))))))))))))), ?_⟩
    have te := T.ex hc
    obtain ⟨dd, h1, h2⟩ := xo
    refine ⟨_, rfl, e, D, dd, _, _, _, rfl, te, h1, h2, .own c0, T.kk i 0 D c0 hc rfl, ?_⟩
    refine ⟨by show 2 ≤ sizeLine; decide, fun t0 nt0 => ?_⟩
    replace xo : ExOf _ e D := ⟨dd, h1, h2⟩
    clear h1 h2
    have sA := sameN (o := .tup [.str "BadStars", .bl (decide (i = 0))]) nt0
    have g_t0 : (upd H t0 (.tup [.str "BadStars", .bl (decide (i = 0))])) t0 = some (.tup [.str "BadStars", .bl (decide (i = 0))]) := upd_same
    generalize upd H t0 (.tup [.str "BadStars", .bl (decide (i = 0))]) = T0 at sA g_t0 ⊢
    replace xo := xo.same sA
    have sH := sA
    clear sA nt0
    obtain ⟨dd, h1, h2⟩ := xo
    refine ⟨_, rfl, e, D, dd, _, _, _, rfl, te, h1, h2, .own c1, T.kk i 1 D c1 hc rfl, ?_⟩
    refine ⟨by show 2 ≤ sizeLine; decide, fun t1 nt1 => ?_⟩
    replace xo : ExOf _ e D := ⟨dd, h1, h2⟩
    clear h1 h2
    have sA := sameN (o := .tup [.str "BadEnds", .bl (decide (i = 1))]) nt1
    have g_t1 : (upd T0 t1 (.tup [.str "BadEnds", .bl (decide (i = 1))])) t1 = some (.tup [.str "BadEnds", .bl (decide (i = 1))]) := upd_same
    generalize upd T0 t1 (.tup [.str "BadEnds", .bl (decide (i = 1))]) = T1 at sA g_t1 ⊢
    replace xo := xo.same sA
    replace g_t0 := sA _ _ g_t0
    replace sH := sH.trans sA
    clear sA nt1
    refine ⟨by show 2 ≤ sizeLine; decide, fun l0 nl0 => ?_⟩
    have sA := sameN (o := .lst [.ref t0, .ref t1]) nl0
    have g_l0 : (upd T1 l0 (.lst [.ref t0, .ref t1])) l0 = some (.lst [.ref t0, .ref t1]) := upd_same
    generalize upd T1 l0 (.lst [.ref t0, .ref t1]) = L0 at sA g_l0 ⊢
    replace xo := xo.same sA
    replace g_t0 := sA _ _ g_t0
    replace g_t1 := sA _ _ g_t1
    replace sH := sH.trans sA
    clear sA nl0
    refine ⟨_, rfl, ?_⟩
    obtain ⟨dd, h1, h2⟩ := xo
    refine ⟨_, rfl, e, D, dd, _, _, _, rfl, te, h1, h2, .own c4, T.kk i 4 D c4 hc rfl, ?_⟩
    refine ⟨by show 2 ≤ sizeLine; decide, fun t2 nt2 => ?_⟩
    replace xo : ExOf _ e D := ⟨dd, h1, h2⟩
    clear h1 h2
    have sA := sameN (o := .tup [.str "BadSet", .bl (decide (i = 4))]) nt2
    have g_t2 : (upd L0 t2 (.tup [.str "BadSet", .bl (decide (i = 4))])) t2 = some (.tup [.str "BadSet", .bl (decide (i = 4))]) := upd_same
    generalize upd L0 t2 (.tup [.str "BadSet", .bl (decide (i = 4))]) = T2 at sA g_t2 ⊢
    replace xo := xo.same sA
    replace g_t0 := sA _ _ g_t0
    replace g_t1 := sA _ _ g_t1
    replace g_l0 := sA _ _ g_l0
    replace sH := sH.trans sA
    clear sA nt2
    obtain ⟨dd, h1, h2⟩ := xo
    refine ⟨_, rfl, e, D, dd, _, _, _, rfl, te, h1, h2, .own c2, T.kk i 2 D c2 hc rfl, ?_⟩
    refine ⟨by show 2 ≤ sizeLine; decide, fun t3 nt3 => ?_⟩
    replace xo : ExOf _ e D := ⟨dd, h1, h2⟩
    clear h1 h2
    have sA := sameN (o := .tup [.str "BadDeed", .bl (decide (i = 2))]) nt3
    have g_t3 : (upd T2 t3 (.tup [.str "BadDeed", .bl (decide (i = 2))])) t3 = some (.tup [.str "BadDeed", .bl (decide (i = 2))]) := upd_same
    generalize upd T2 t3 (.tup [.str "BadDeed", .bl (decide (i = 2))]) = T3 at sA g_t3 ⊢
    replace xo := xo.same sA
    replace g_t0 := sA _ _ g_t0
    replace g_t1 := sA _ _ g_t1
    replace g_l0 := sA _ _ g_l0
    replace g_t2 := sA _ _ g_t2
    replace sH := sH.trans sA
    clear sA nt3
    refine ⟨by show 2 ≤ sizeLine; decide, fun l1 nl1 => ?_⟩
    have sA := sameN (o := .lst [.ref t2, .ref t3]) nl1
    have g_l1 : (upd T3 l1 (.lst [.ref t2, .ref t3])) l1 = some (.lst [.ref t2, .ref t3]) := upd_same
    generalize upd T3 l1 (.lst [.ref t2, .ref t3]) = L1 at sA g_l1 ⊢
    replace xo := xo.same sA
    replace g_t0 := sA _ _ g_t0
    replace g_t1 := sA _ _ g_t1
    replace g_l0 := sA _ _ g_l0
    replace g_t2 := sA _ _ g_t2
    replace g_t3 := sA _ _ g_t3
    replace sH := sH.trans sA
    clear sA nl1
    refine ⟨l0, l1, _, _, rfl, rfl, g_l0, g_l1, by show 4 ≤ sizeLine; decide, fun q1 nq1 => ?_⟩
    simp only [List.cons_append, List.nil_append]
    have sA := sameN (o := .lst [.ref t0, .ref t1, .ref t2, .ref t3]) nq1
    have g_q1 : (upd L1 q1 (.lst [.ref t0, .ref t1, .ref t2, .ref t3])) q1 = some (.lst [.ref t0, .ref t1, .ref t2, .ref t3]) := upd_same
    generalize upd L1 q1 (.lst [.ref t0, .ref t1, .ref t2, .ref t3]) = Q1 at sA g_q1 ⊢
    replace xo := xo.same sA
    replace g_t0 := sA _ _ g_t0
    replace g_t1 := sA _ _ g_t1
    replace g_l0 := sA _ _ g_l0
    replace g_t2 := sA _ _ g_t2
    replace g_t3 := sA _ _ g_t3
    replace g_l1 := sA _ _ g_l1
    replace sH := sH.trans sA
    clear sA nq1
    refine ⟨_, rfl, ?_⟩
    obtain ⟨dd, h1, h2⟩ := xo
    refine ⟨_, rfl, e, D, dd, _, _, _, rfl, te, h1, h2, .own c5, T.kk i 5 D c5 hc rfl, ?_⟩
    refine ⟨by show 2 ≤ sizeLine; decide, fun t4 nt4 => ?_⟩
    replace xo : ExOf _ e D := ⟨dd, h1, h2⟩
    clear h1 h2
    have sA := sameN (o := .tup [.str "BadNumber", .bl (decide (i = 5))]) nt4
    have g_t4 : (upd Q1 t4 (.tup [.str "BadNumber", .bl (decide (i = 5))])) t4 = some (.tup [.str "BadNumber", .bl (decide (i = 5))]) := upd_same
    generalize upd Q1 t4 (.tup [.str "BadNumber", .bl (decide (i = 5))]) = T4 at sA g_t4 ⊢
    replace xo := xo.same sA
    replace g_t0 := sA _ _ g_t0
    replace g_t1 := sA _ _ g_t1
    replace g_l0 := sA _ _ g_l0
    replace g_t2 := sA _ _ g_t2
    replace g_t3 := sA _ _ g_t3
    replace g_l1 := sA _ _ g_l1
    replace g_q1 := sA _ _ g_q1
    replace sH := sH.trans sA
    clear sA nt4
    obtain ⟨dd, h1, h2⟩ := xo
    refine ⟨_, rfl, e, D, dd, _, _, _, rfl, te, h1, h2, .own c9, T.kk i 9 D c9 hc rfl, ?_⟩
    refine ⟨by show 2 ≤ sizeLine; decide, fun t5 nt5 => ?_⟩
    replace xo : ExOf _ e D := ⟨dd, h1, h2⟩
    clear h1 h2
    have sA := sameN (o := .tup [.str "OtherTies", .bl (decide (i = 9))]) nt5
    have g_t5 : (upd T4 t5 (.tup [.str "OtherTies", .bl (decide (i = 9))])) t5 = some (.tup [.str "OtherTies", .bl (decide (i = 9))]) := upd_same
    generalize upd T4 t5 (.tup [.str "OtherTies", .bl (decide (i = 9))]) = T5 at sA g_t5 ⊢
    replace xo := xo.same sA
    replace g_t0 := sA _ _ g_t0
    replace g_t1 := sA _ _ g_t1
    replace g_l0 := sA _ _ g_l0
    replace g_t2 := sA _ _ g_t2
    replace g_t3 := sA _ _ g_t3
    replace g_l1 := sA _ _ g_l1
    replace g_q1 := sA _ _ g_q1
    replace g_t4 := sA _ _ g_t4
    replace sH := sH.trans sA
    clear sA nt5
    refine ⟨by show 2 ≤ sizeLine; decide, fun l2 nl2 => ?_⟩
    have sA := sameN (o := .lst [.ref t4, .ref t5]) nl2
    have g_l2 : (upd T5 l2 (.lst [.ref t4, .ref t5])) l2 = some (.lst [.ref t4, .ref t5]) := upd_same
    generalize upd T5 l2 (.lst [.ref t4, .ref t5]) = L2 at sA g_l2 ⊢
    replace xo := xo.same sA
    replace g_t0 := sA _ _ g_t0
    replace g_t1 := sA _ _ g_t1
    replace g_l0 := sA _ _ g_l0
    replace g_t2 := sA _ _ g_t2
    replace g_t3 := sA _ _ g_t3
    replace g_l1 := sA _ _ g_l1
    replace g_q1 := sA _ _ g_q1
    replace g_t4 := sA _ _ g_t4
    replace g_t5 := sA _ _ g_t5
    replace sH := sH.trans sA
    clear sA nl2
    refine ⟨q1, l2, _, _, rfl, rfl, g_q1, g_l2, by show 6 ≤ sizeLine; decide, fun q2 nq2 => ?_⟩
    simp only [List.cons_append, List.nil_append]
    have sA := sameN (o := .lst [.ref t0, .ref t1, .ref t2, .ref t3, .ref t4, .ref t5]) nq2
    have g_q2 : (upd L2 q2 (.lst [.ref t0, .ref t1, .ref t2, .ref t3, .ref t4, .ref t5])) q2 = some (.lst [.ref t0, .ref t1, .ref t2, .ref t3, .ref t4, .ref t5]) := upd_same
    generalize upd L2 q2 (.lst [.ref t0, .ref t1, .ref t2, .ref t3, .ref t4, .ref t5]) = Q2 at sA g_q2 ⊢
    replace xo := xo.same sA
    replace g_t0 := sA _ _ g_t0
    replace g_t1 := sA _ _ g_t1
    replace g_l0 := sA _ _ g_l0
    replace g_t2 := sA _ _ g_t2
    replace g_t3 := sA _ _ g_t3
    replace g_l1 := sA _ _ g_l1
    replace g_q1 := sA _ _ g_q1
    replace g_t4 := sA _ _ g_t4
    replace g_t5 := sA _ _ g_t5
    replace g_l2 := sA _ _ g_l2
    replace sH := sH.trans sA
    clear sA nq2
    refine ⟨_, rfl, ?_⟩
    obtain ⟨dd, h1, h2⟩ := xo
    refine ⟨_, rfl, e, D, dd, _, _, _, rfl, te, h1, h2, .own c8, T.kk i 8 D c8 hc rfl, ?_⟩
    refine ⟨by show 2 ≤ sizeLine; decide, fun t6 nt6 => ?_⟩
    replace xo : ExOf _ e D := ⟨dd, h1, h2⟩
    clear h1 h2
    have sA := sameN (o := .tup [.str "BadName", .bl (decide (i = 8))]) nt6
    have g_t6 : (upd Q2 t6 (.tup [.str "BadName", .bl (decide (i = 8))])) t6 = some (.tup [.str "BadName", .bl (decide (i = 8))]) := upd_same
    generalize upd Q2 t6 (.tup [.str "BadName", .bl (decide (i = 8))]) = T6 at sA g_t6 ⊢
    replace xo := xo.same sA
    replace g_t0 := sA _ _ g_t0
    replace g_t1 := sA _ _ g_t1
    replace g_l0 := sA _ _ g_l0
    replace g_t2 := sA _ _ g_t2
    replace g_t3 := sA _ _ g_t3
    replace g_l1 := sA _ _ g_l1
    replace g_q1 := sA _ _ g_q1
    replace g_t4 := sA _ _ g_t4
    replace g_t5 := sA _ _ g_t5
    replace g_l2 := sA _ _ g_l2
    replace g_q2 := sA _ _ g_q2
    replace sH := sH.trans sA
    clear sA nt6
    obtain ⟨dd, h1, h2⟩ := xo
    refine ⟨_, rfl, e, D, dd, _, _, _, rfl, te, h1, h2, .own c10, T.kk i 10 D c10 hc rfl, ?_⟩
    refine ⟨by show 2 ≤ sizeLine; decide, fun t7 nt7 => ?_⟩
    replace xo : ExOf _ e D := ⟨dd, h1, h2⟩
    clear h1 h2
    have sA := sameN (o := .tup [.str "Apart", .bl (decide (i = 10))]) nt7
    have g_t7 : (upd T6 t7 (.tup [.str "Apart", .bl (decide (i = 10))])) t7 = some (.tup [.str "Apart", .bl (decide (i = 10))]) := upd_same
    generalize upd T6 t7 (.tup [.str "Apart", .bl (decide (i = 10))]) = T7 at sA g_t7 ⊢
    replace xo := xo.same sA
    replace g_t0 := sA _ _ g_t0
    replace g_t1 := sA _ _ g_t1
    replace g_l0 := sA _ _ g_l0
    replace g_t2 := sA _ _ g_t2
    replace g_t3 := sA _ _ g_t3
    replace g_l1 := sA _ _ g_l1
    replace g_q1 := sA _ _ g_q1
    replace g_t4 := sA _ _ g_t4
    replace g_t5 := sA _ _ g_t5
    replace g_l2 := sA _ _ g_l2
    replace g_q2 := sA _ _ g_q2
    replace g_t6 := sA _ _ g_t6
    replace sH := sH.trans sA
    clear sA nt7
    refine ⟨by show 2 ≤ sizeLine; decide, fun l3 nl3 => ?_⟩
    have sA := sameN (o := .lst [.ref t6, .ref t7]) nl3
    have g_l3 : (upd T7 l3 (.lst [.ref t6, .ref t7])) l3 = some (.lst [.ref t6, .ref t7]) := upd_same
    generalize upd T7 l3 (.lst [.ref t6, .ref t7]) = L3 at sA g_l3 ⊢
    replace xo := xo.same sA
    replace g_t0 := sA _ _ g_t0
    replace g_t1 := sA _ _ g_t1
    replace g_l0 := sA _ _ g_l0
    replace g_t2 := sA _ _ g_t2
    replace g_t3 := sA _ _ g_t3
    replace g_l1 := sA _ _ g_l1
    replace g_q1 := sA _ _ g_q1
    replace g_t4 := sA _ _ g_t4
    replace g_t5 := sA _ _ g_t5
    replace g_l2 := sA _ _ g_l2
    replace g_q2 := sA _ _ g_q2
    replace g_t6 := sA _ _ g_t6
    replace g_t7 := sA _ _ g_t7
    replace sH := sH.trans sA
    clear sA nl3
    refine ⟨q2, l3, _, _, rfl, rfl, g_q2, g_l3, by show 8 ≤ sizeLine; decide, fun q3 nq3 => ?_⟩
    simp only [List.cons_append, List.nil_append]
    have sA := sameN (o := .lst [.ref t0, .ref t1, .ref t2, .ref t3, .ref t4, .ref t5, .ref t6, .ref t7]) nq3
    have g_q3 : (upd L3 q3 (.lst [.ref t0, .ref t1, .ref t2, .ref t3, .ref t4, .ref t5, .ref t6, .ref t7])) q3 = some (.lst [.ref t0, .ref t1, .ref t2, .ref t3, .ref t4, .ref t5, .ref t6, .ref t7]) := upd_same
    generalize upd L3 q3 (.lst [.ref t0, .ref t1, .ref t2, .ref t3, .ref t4, .ref t5, .ref t6, .ref t7]) = Q3 at sA g_q3 ⊢
    replace xo := xo.same sA
    replace g_t0 := sA _ _ g_t0
    replace g_t1 := sA _ _ g_t1
    replace g_l0 := sA _ _ g_l0
    replace g_t2 := sA _ _ g_t2
    replace g_t3 := sA _ _ g_t3
    replace g_l1 := sA _ _ g_l1
    replace g_q1 := sA _ _ g_q1
    replace g_t4 := sA _ _ g_t4
    replace g_t5 := sA _ _ g_t5
    replace g_l2 := sA _ _ g_l2
    replace g_q2 := sA _ _ g_q2
    replace g_t6 := sA _ _ g_t6
    replace g_t7 := sA _ _ g_t7
    replace g_l3 := sA _ _ g_l3
    replace sH := sH.trans sA
    clear sA nq3
    refine ⟨_, rfl, ?_⟩
    obtain ⟨dd, h1, h2⟩ := xo
    refine ⟨_, rfl, e, D, dd, _, _, _, rfl, te, h1, h2, .own c6, T.kk i 6 D c6 hc rfl, ?_⟩
    refine ⟨by show 2 ≤ sizeLine; decide, fun t8 nt8 => ?_⟩
    replace xo : ExOf _ e D := ⟨dd, h1, h2⟩
    clear h1 h2
    have sA := sameN (o := .tup [.str "BadTree", .bl (decide (i = 6))]) nt8
    have g_t8 : (upd Q3 t8 (.tup [.str "BadTree", .bl (decide (i = 6))])) t8 = some (.tup [.str "BadTree", .bl (decide (i = 6))]) := upd_same
    generalize upd Q3 t8 (.tup [.str "BadTree", .bl (decide (i = 6))]) = T8 at sA g_t8 ⊢
    replace xo := xo.same sA
    replace g_t0 := sA _ _ g_t0
    replace g_t1 := sA _ _ g_t1
    replace g_l0 := sA _ _ g_l0
    replace g_t2 := sA _ _ g_t2
    replace g_t3 := sA _ _ g_t3
    replace g_l1 := sA _ _ g_l1
    replace g_q1 := sA _ _ g_q1
    replace g_t4 := sA _ _ g_t4
    replace g_t5 := sA _ _ g_t5
    replace g_l2 := sA _ _ g_l2
    replace g_q2 := sA _ _ g_q2
    replace g_t6 := sA _ _ g_t6
    replace g_t7 := sA _ _ g_t7
    replace g_l3 := sA _ _ g_l3
    replace g_q3 := sA _ _ g_q3
    replace sH := sH.trans sA
    clear sA nt8
    obtain ⟨dd, h1, h2⟩ := xo
    refine ⟨_, rfl, e, D, dd, _, _, _, rfl, te, h1, h2, .own c3, T.kk i 3 D c3 hc rfl, ?_⟩
    refine ⟨by show 2 ≤ sizeLine; decide, fun t9 nt9 => ?_⟩
    replace xo : ExOf _ e D := ⟨dd, h1, h2⟩
    clear h1 h2
    have sA := sameN (o := .tup [.str "BadText", .bl (decide (i = 3))]) nt9
    have g_t9 : (upd T8 t9 (.tup [.str "BadText", .bl (decide (i = 3))])) t9 = some (.tup [.str "BadText", .bl (decide (i = 3))]) := upd_same
    generalize upd T8 t9 (.tup [.str "BadText", .bl (decide (i = 3))]) = T9 at sA g_t9 ⊢
    replace xo := xo.same sA
    replace g_t0 := sA _ _ g_t0
    replace g_t1 := sA _ _ g_t1
    replace g_l0 := sA _ _ g_l0
    replace g_t2 := sA _ _ g_t2
    replace g_t3 := sA _ _ g_t3
    replace g_l1 := sA _ _ g_l1
    replace g_q1 := sA _ _ g_q1
    replace g_t4 := sA _ _ g_t4
    replace g_t5 := sA _ _ g_t5
    replace g_l2 := sA _ _ g_l2
    replace g_q2 := sA _ _ g_q2
    replace g_t6 := sA _ _ g_t6
    replace g_t7 := sA _ _ g_t7
    replace g_l3 := sA _ _ g_l3
    replace g_q3 := sA _ _ g_q3
    replace g_t8 := sA _ _ g_t8
    replace sH := sH.trans sA
    clear sA nt9
    refine ⟨by show 2 ≤ sizeLine; decide, fun l4 nl4 => ?_⟩
    have sA := sameN (o := .lst [.ref t8, .ref t9]) nl4
    have g_l4 : (upd T9 l4 (.lst [.ref t8, .ref t9])) l4 = some (.lst [.ref t8, .ref t9]) := upd_same
    generalize upd T9 l4 (.lst [.ref t8, .ref t9]) = L4 at sA g_l4 ⊢
    replace xo := xo.same sA
    replace g_t0 := sA _ _ g_t0
    replace g_t1 := sA _ _ g_t1
    replace g_l0 := sA _ _ g_l0
    replace g_t2 := sA _ _ g_t2
    replace g_t3 := sA _ _ g_t3
    replace g_l1 := sA _ _ g_l1
    replace g_q1 := sA _ _ g_q1
    replace g_t4 := sA _ _ g_t4
    replace g_t5 := sA _ _ g_t5
    replace g_l2 := sA _ _ g_l2
    replace g_q2 := sA _ _ g_q2
    replace g_t6 := sA _ _ g_t6
    replace g_t7 := sA _ _ g_t7
    replace g_l3 := sA _ _ g_l3
    replace g_q3 := sA _ _ g_q3
    replace g_t8 := sA _ _ g_t8
    replace g_t9 := sA _ _ g_t9
    replace sH := sH.trans sA
    clear sA nl4
    refine ⟨q3, l4, _, _, rfl, rfl, g_q3, g_l4, by show 10 ≤ sizeLine; decide, fun q4 nq4 => ?_⟩
    simp only [List.cons_append, List.nil_append]
    have sA := sameN (o := .lst [.ref t0, .ref t1, .ref t2, .ref t3, .ref t4, .ref t5, .ref t6, .ref t7, .ref t8, .ref t9]) nq4
    have g_q4 : (upd L4 q4 (.lst [.ref t0, .ref t1, .ref t2, .ref t3, .ref t4, .ref t5, .ref t6, .ref t7, .ref t8, .ref t9])) q4 = some (.lst [.ref t0, .ref t1, .ref t2, .ref t3, .ref t4, .ref t5, .ref t6, .ref t7, .ref t8, .ref t9]) := upd_same
    generalize upd L4 q4 (.lst [.ref t0, .ref t1, .ref t2, .ref t3, .ref t4, .ref t5, .ref t6, .ref t7, .ref t8, .ref t9]) = Q4 at sA g_q4 ⊢
    replace xo := xo.same sA
    replace g_t0 := sA _ _ g_t0
    replace g_t1 := sA _ _ g_t1
    replace g_l0 := sA _ _ g_l0
    replace g_t2 := sA _ _ g_t2
    replace g_t3 := sA _ _ g_t3
    replace g_l1 := sA _ _ g_l1
    replace g_q1 := sA _ _ g_q1
    replace g_t4 := sA _ _ g_t4
    replace g_t5 := sA _ _ g_t5
    replace g_l2 := sA _ _ g_l2
    replace g_q2 := sA _ _ g_q2
    replace g_t6 := sA _ _ g_t6
    replace g_t7 := sA _ _ g_t7
    replace g_l3 := sA _ _ g_l3
    replace g_q3 := sA _ _ g_q3
    replace g_t8 := sA _ _ g_t8
    replace g_t9 := sA _ _ g_t9
    replace g_l4 := sA _ _ g_l4
    replace sH := sH.trans sA
    clear sA nq4
    refine ⟨_, rfl, ?_⟩
    obtain ⟨dd, h1, h2⟩ := xo
    refine ⟨_, rfl, e, D, dd, _, _, _, rfl, te, h1, h2, .own c11, T.kk i 11 D c11 hc rfl, ?_⟩
    refine ⟨by show 2 ≤ sizeLine; decide, fun t10 nt10 => ?_⟩
    replace xo : ExOf _ e D := ⟨dd, h1, h2⟩
    clear h1 h2
    have sA := sameN (o := .tup [.str "NothingLeft", .bl (decide (i = 11))]) nt10
    have g_t10 : (upd Q4 t10 (.tup [.str "NothingLeft", .bl (decide (i = 11))])) t10 = some (.tup [.str "NothingLeft", .bl (decide (i = 11))]) := upd_same
    generalize upd Q4 t10 (.tup [.str "NothingLeft", .bl (decide (i = 11))]) = T10 at sA g_t10 ⊢
    replace xo := xo.same sA
    replace g_t0 := sA _ _ g_t0
    replace g_t1 := sA _ _ g_t1
    replace g_l0 := sA _ _ g_l0
    replace g_t2 := sA _ _ g_t2
    replace g_t3 := sA _ _ g_t3
    replace g_l1 := sA _ _ g_l1
    replace g_q1 := sA _ _ g_q1
    replace g_t4 := sA _ _ g_t4
    replace g_t5 := sA _ _ g_t5
    replace g_l2 := sA _ _ g_l2
    replace g_q2 := sA _ _ g_q2
    replace g_t6 := sA _ _ g_t6
    replace g_t7 := sA _ _ g_t7
    replace g_l3 := sA _ _ g_l3
    replace g_q3 := sA _ _ g_q3
    replace g_t8 := sA _ _ g_t8
    replace g_t9 := sA _ _ g_t9
    replace g_l4 := sA _ _ g_l4
    replace g_q4 := sA _ _ g_q4
    replace sH := sH.trans sA
    clear sA nt10
    obtain ⟨dd, h1, h2⟩ := xo
    refine ⟨_, rfl, e, D, dd, _, _, _, rfl, te, h1, h2, .own c7, T.kk i 7 D c7 hc rfl, ?_⟩
    refine ⟨by show 2 ≤ sizeLine; decide, fun t11 nt11 => ?_⟩
    replace xo : ExOf _ e D := ⟨dd, h1, h2⟩
    clear h1 h2
    have sA := sameN (o := .tup [.str "TooGreat", .bl (decide (i = 7))]) nt11
    have g_t11 : (upd T10 t11 (.tup [.str "TooGreat", .bl (decide (i = 7))])) t11 = some (.tup [.str "TooGreat", .bl (decide (i = 7))]) := upd_same
    generalize upd T10 t11 (.tup [.str "TooGreat", .bl (decide (i = 7))]) = T11 at sA g_t11 ⊢
    replace xo := xo.same sA
    replace g_t0 := sA _ _ g_t0
    replace g_t1 := sA _ _ g_t1
    replace g_l0 := sA _ _ g_l0
    replace g_t2 := sA _ _ g_t2
    replace g_t3 := sA _ _ g_t3
    replace g_l1 := sA _ _ g_l1
    replace g_q1 := sA _ _ g_q1
    replace g_t4 := sA _ _ g_t4
    replace g_t5 := sA _ _ g_t5
    replace g_l2 := sA _ _ g_l2
    replace g_q2 := sA _ _ g_q2
    replace g_t6 := sA _ _ g_t6
    replace g_t7 := sA _ _ g_t7
    replace g_l3 := sA _ _ g_l3
    replace g_q3 := sA _ _ g_q3
    replace g_t8 := sA _ _ g_t8
    replace g_t9 := sA _ _ g_t9
    replace g_l4 := sA _ _ g_l4
    replace g_q4 := sA _ _ g_q4
    replace g_t10 := sA _ _ g_t10
    replace sH := sH.trans sA
    clear sA nt11
    refine ⟨by show 2 ≤ sizeLine; decide, fun l5 nl5 => ?_⟩
    have sA := sameN (o := .lst [.ref t10, .ref t11]) nl5
    have g_l5 : (upd T11 l5 (.lst [.ref t10, .ref t11])) l5 = some (.lst [.ref t10, .ref t11]) := upd_same
    generalize upd T11 l5 (.lst [.ref t10, .ref t11]) = L5 at sA g_l5 ⊢
    replace xo := xo.same sA
    replace g_t0 := sA _ _ g_t0
    replace g_t1 := sA _ _ g_t1
    replace g_l0 := sA _ _ g_l0
    replace g_t2 := sA _ _ g_t2
    replace g_t3 := sA _ _ g_t3
    replace g_l1 := sA _ _ g_l1
    replace g_q1 := sA _ _ g_q1
    replace g_t4 := sA _ _ g_t4
    replace g_t5 := sA _ _ g_t5
    replace g_l2 := sA _ _ g_l2
    replace g_q2 := sA _ _ g_q2
    replace g_t6 := sA _ _ g_t6
    replace g_t7 := sA _ _ g_t7
    replace g_l3 := sA _ _ g_l3
    replace g_q3 := sA _ _ g_q3
    replace g_t8 := sA _ _ g_t8
    replace g_t9 := sA _ _ g_t9
    replace g_l4 := sA _ _ g_l4
    replace g_q4 := sA _ _ g_q4
    replace g_t10 := sA _ _ g_t10
    replace g_t11 := sA _ _ g_t11
    replace sH := sH.trans sA
    clear sA nl5
    refine ⟨q4, l5, _, _, rfl, rfl, g_q4, g_l5, by show 12 ≤ sizeLine; decide, fun q5 nq5 => ?_⟩
    simp only [List.cons_append, List.nil_append]
    have sA := sameN (o := .lst [.ref t0, .ref t1, .ref t2, .ref t3, .ref t4, .ref t5, .ref t6, .ref t7, .ref t8, .ref t9, .ref t10, .ref t11]) nq5
    have g_q5 : (upd L5 q5 (.lst [.ref t0, .ref t1, .ref t2, .ref t3, .ref t4, .ref t5, .ref t6, .ref t7, .ref t8, .ref t9, .ref t10, .ref t11])) q5 = some (.lst [.ref t0, .ref t1, .ref t2, .ref t3, .ref t4, .ref t5, .ref t6, .ref t7, .ref t8, .ref t9, .ref t10, .ref t11]) := upd_same
    generalize upd L5 q5 (.lst [.ref t0, .ref t1, .ref t2, .ref t3, .ref t4, .ref t5, .ref t6, .ref t7, .ref t8, .ref t9, .ref t10, .ref t11]) = Q5 at sA g_q5 ⊢
    replace xo := xo.same sA
    replace g_t0 := sA _ _ g_t0
    replace g_t1 := sA _ _ g_t1
    replace g_l0 := sA _ _ g_l0
    replace g_t2 := sA _ _ g_t2
    replace g_t3 := sA _ _ g_t3
    replace g_l1 := sA _ _ g_l1
    replace g_q1 := sA _ _ g_q1
    replace g_t4 := sA _ _ g_t4
    replace g_t5 := sA _ _ g_t5
    replace g_l2 := sA _ _ g_l2
    replace g_q2 := sA _ _ g_q2
    replace g_t6 := sA _ _ g_t6
    replace g_t7 := sA _ _ g_t7
    replace g_l3 := sA _ _ g_l3
    replace g_q3 := sA _ _ g_q3
    replace g_t8 := sA _ _ g_t8
    replace g_t9 := sA _ _ g_t9
    replace g_l4 := sA _ _ g_l4
    replace g_q4 := sA _ _ g_q4
    replace g_t10 := sA _ _ g_t10
    replace g_t11 := sA _ _ g_t11
    replace g_l5 := sA _ _ g_l5
    replace sH := sH.trans sA
    clear sA nq5
    have hX : ∀ (j : Nat) (x : V), [V.ref t0, .ref t1, .ref t2, .ref t3, .ref t4, .ref t5, .ref t6, .ref t7, .ref t8, .ref t9, .ref t10, .ref t11][j]? = some x → ∃ t, x = .ref t ∧ SqT K Q5 t [.str (wd (rho j)), .bl (decide (i = rho j))] := by
      intro j x hx
      have hj := (List.getElem?_eq_some_iff.mp hx).1
      simp only [List.length_cons, List.length_nil] at hj
      match j, hj, hx with
      | 0, _, h => cases h; exact ⟨_, rfl, SqT.of g_t0⟩
      | 1, _, h => cases h; exact ⟨_, rfl, SqT.of g_t1⟩
      | 2, _, h => cases h; exact ⟨_, rfl, SqT.of g_t2⟩
      | 3, _, h => cases h; exact ⟨_, rfl, SqT.of g_t3⟩
      | 4, _, h => cases h; exact ⟨_, rfl, SqT.of g_t4⟩
      | 5, _, h => cases h; exact ⟨_, rfl, SqT.of g_t5⟩
      | 6, _, h => cases h; exact ⟨_, rfl, SqT.of g_t6⟩
      | 7, _, h => cases h; exact ⟨_, rfl, SqT.of g_t7⟩
      | 8, _, h => cases h; exact ⟨_, rfl, SqT.of g_t8⟩
      | 9, _, h => cases h; exact ⟨_, rfl, SqT.of g_t9⟩
      | 10, _, h => cases h; exact ⟨_, rfl, SqT.of g_t10⟩
      | 11, _, h => cases h; exact ⟨_, rfl, SqT.of g_t11⟩
    clear g_t0 g_t1 g_t2 g_t3 g_t4 g_t5 g_t6 g_t7 g_t8 g_t9 g_t10 g_t11 g_l0 g_l1 g_l2 g_l3 g_l4 g_l5 g_q1 g_q2 g_q3 g_q4
    -- words
    refine ⟨_, rfl, q5, rfl, ⟨_, SqL.of g_q5⟩, fun B nB => ?_⟩
    refine lc_it (walk_list (xs := [V.ref t0, .ref t1, .ref t2, .ref t3, .ref t4, .ref t5, .ref t6, .ref t7, .ref t8, .ref t9, .ref t10, .ref t11])) (fun j H' => Same Q5 H' ∧ H' B = some (.lst (acc i j))) ⟨sameN nB, upd_same⟩ (fun j H' _ hp => SqL.of (hp.1 _ _ g_q5)) (fun j x H1 H2 hj hp hy => ?_) (fun H1 hp => ?_)
    · obtain ⟨rfl, hx⟩ := hy
      obtain ⟨t, rfl, hT⟩ := hX j x hx
      have hj : j < 12 := hj
      refine ⟨t, _, rfl, same_tup hp.1 hT, rfl, _, _, rfl, _, _, rfl, rfl, ?_⟩
      refine ⟨rfl, ?_⟩
      refine ⟨_, rfl, decide (i = rho j), rfl, ?_⟩
      by_cases z : i = rho j
      · rw [decide_eq_true z]
        refine ite_tt ⟨_, rfl, _, hp.2, Nat.lt_of_le_of_lt (acc_len i j) (small1000 (by omega)), fun b o q => ?_, ?_⟩
        · rw [upd_ne (ne_of_none q nB)]
          exact hp.1 b o q
        · rw [upd_same, acc_tt z]
      · rw [decide_eq_false z]
        exact ite_ff ⟨hp.1, by rw [acc_ff z]; exact hp.2⟩
    obtain ⟨s1, hB⟩ := hp
    replace hB : H1 B = some (.lst (acc i 12)) := hB
    rw [acc_all hi] at hB
    replace xo := xo.same s1
    replace sH := sH.trans s1
    clear hX g_q5 s1 nB
    refine ⟨_, rfl, B, _, rfl, .inl (SqL.of hB), ?_⟩
    refine ⟨rfl, false, rfl, ite_ff ?_⟩
    refine ⟨_, rfl, B, _, 0, _, rfl, rfl, SqL.of hB, atI_nat (j := 0) rfl, ?_⟩
    refine ⟨by show 4 ≤ sizeLine; decide, fun p1 np1 => ?_⟩
    refine ⟨p1, _, rfl, .inr (SqT.of upd_same), rfl, rfl, ?_⟩
    refine ⟨decide (i < 4), congrArg V.bl (in_p hi), ?_⟩
    have s1 := sameN (o := .tup [.str "BadStars", .str "BadEnds", .str "BadDeed", .str "BadText"]) np1
    generalize upd H1 p1 (.tup [.str "BadStars", .str "BadEnds", .str "BadDeed", .str "BadText"]) = J1 at s1 ⊢
    replace hB := s1 _ _ hB
    replace sH := sH.trans s1
    clear s1 np1 xo
    by_cases z : i < 4
    · rw [decide_eq_true z]
      refine ite_tt ?_
      have hf : fld i = "place" := by unfold fld; rw [if_pos z]
      have h9 : i < 9 := by omega
      have rd := T.rd hc h9
      have xf := (xf h9).same sH
      rw [hf] at rd xf
      obtain ⟨d, x1, x2⟩ := xf
      refine ⟨_, rfl, B, _, 0, _, rfl, rfl, SqL.of hB, atI_nat (j := 0) rfl, ?_⟩
      refine ⟨_, rfl, e, D, d, _, v, rfl, rd.x, rd.n, x1, x2, lookE, ?_⟩
      refine ⟨by show 2 ≤ sizeLine; decide, fun p np => ?_⟩
      exact k _ _ (sH.trans (sameN np)) (by rw [upd_same]; unfold res; rw [if_pos h9])
    rw [decide_eq_false z]
    refine ite_ff ?_
    refine ⟨_, rfl, B, _, 0, _, rfl, rfl, SqL.of hB, atI_nat (j := 0) rfl, ?_⟩
    refine ⟨by show 4 ≤ sizeLine; decide, fun p2 np2 => ?_⟩
    refine ⟨p2, _, rfl, .inr (SqT.of upd_same), rfl, rfl, ?_⟩
    refine ⟨decide (i = 4 ∨ i = 5 ∨ i = 6 ∨ i = 8), congrArg V.bl (in_v hi), ?_⟩
    have s1 := sameN (o := .tup [.str "BadSet", .str "BadNumber", .str "BadTree", .str "BadName"]) np2
    generalize upd J1 p2 (.tup [.str "BadSet", .str "BadNumber", .str "BadTree", .str "BadName"]) = J2 at s1 ⊢
    replace hB := s1 _ _ hB
    replace sH := sH.trans s1
    clear s1 np2
    by_cases z2 : i = 4 ∨ i = 5 ∨ i = 6 ∨ i = 8
    · rw [decide_eq_true z2]
      refine ite_tt ?_
      have hf : fld i = "value" := by unfold fld; rw [if_neg z, if_neg (by omega)]
      have h9 : i < 9 := by omega
      have rd := T.rd hc h9
      have xf := (xf h9).same sH
      rw [hf] at rd xf
      obtain ⟨d, x1, x2⟩ := xf
      refine ⟨_, rfl, B, _, 0, _, rfl, rfl, SqL.of hB, atI_nat (j := 0) rfl, ?_⟩
      refine ⟨_, rfl, e, D, d, _, v, rfl, rd.x, rd.n, x1, x2, lookE, ?_⟩
      refine ⟨by show 2 ≤ sizeLine; decide, fun p np => ?_⟩
      exact k _ _ (sH.trans (sameN np)) (by rw [upd_same]; unfold res; rw [if_pos h9])
    rw [decide_eq_false z2]
    refine ite_ff ?_
    refine ⟨_, rfl, B, _, 0, _, rfl, rfl, SqL.of hB, atI_nat (j := 0) rfl, ?_⟩
    refine ⟨rfl, decide (i = 7), congrArg V.bl (is_most hi), ?_⟩
    by_cases z3 : i = 7
    · rw [decide_eq_true z3]
      refine ite_tt ?_
      have hf : fld i = "most" := by unfold fld; rw [if_neg z, if_pos z3]
      have h9 : i < 9 := by omega
      have rd := T.rd hc h9
      have xf := (xf h9).same sH
      rw [hf] at rd xf
      obtain ⟨d, x1, x2⟩ := xf
      refine ⟨_, rfl, B, _, 0, _, rfl, rfl, SqL.of hB, atI_nat (j := 0) rfl, ?_⟩
      refine ⟨_, rfl, e, D, d, _, v, rfl, rd.x, rd.n, x1, x2, lookE, ?_⟩
      refine ⟨by show 2 ≤ sizeLine; decide, fun p np => ?_⟩
      exact k _ _ (sH.trans (sameN np)) (by rw [upd_same]; unfold res; rw [if_pos h9])
    rw [decide_eq_false z3]
    refine ite_ff ?_
    refine ⟨_, rfl, B, _, 0, _, rfl, rfl, SqL.of hB, atI_nat (j := 0) rfl, ?_⟩
    refine ⟨by show 1 ≤ sizeLine; decide, fun p np => ?_⟩
    exact k _ _ (sH.trans (sameN np)) (by rw [upd_same]; unfold res; rw [if_neg (by omega)])
end
end Sg

namespace Sg
open PySem PySem.Spec PyProof.Rows L2 Gx Sx RZ SlX
abbrev sLaw : Stmt := topS 28
/-- what the law's class must have besides -/
structure WebE (K : PySem.W.Frag) (C fE : Addr) : Prop where
  at_ : PySem.W.findIn K (.ref C) "__eq__" = some (some (.ref fE))
  fn : PySem.W.isFn K (.ref fE) = true
  ne : PySem.W.findIn K (.ref C) "__ne__" = some (some (.builtin "object.__ne__"))
  sub : SubNo K C
  nf : ∀ T, T ∈ ["NoneType", "int", "str", "tuple", "list", "dict"] → PySem.W.notFirst K C (.type T) = true
  nfo : PySem.W.notFirst K C (.ref C) = true
  ki : ∀ T, T ∈ ["NoneType", "int", "str", "tuple", "list", "dict"] → PySem.W.kitOne K (.type T) (.ref C) = some false

section
variable {K : PySem.W.Frag}
def goodB (ss : List (List Int)) (k : Nat) : Bool :=
  decide (ss.length ≤ 100) && ss.all (fun s => !s.isEmpty && setB 12 s && decide (s.length ≤ 100)) && (List.range (ss.length - 1)).all (fun i => !HT.lexLt ((ss[i + 1]?).getD []) ((ss[i]?).getD [])) &&
    ss.flatten.all (fun t => decide (ss.flatten.count t ≤ 2)) && decide (k ≤ 12) && (List.range 12).all (fun t => decide (0 < ss.flatten.count (t : Int)) == decide (t < k))
theorem good_of {ss : List (List Int)} {k : Nat} (h : goodB ss k = true) : Good ss k ∧ ∀ s ∈ ss, s.length ≤ 100 := by
  unfold goodB at h
  simp only [Bool.and_eq_true] at h
  obtain ⟨⟨⟨⟨⟨h1, h2⟩, h3⟩, h4⟩, h5⟩, h6⟩ := h
  have g2 : ∀ s ∈ ss, (s ≠ [] ∧ setB 12 s = true) ∧ s.length ≤ 100 := fun s hs => by
    have := List.all_eq_true.mp h2 s hs
    simp only [Bool.and_eq_true, Bool.not_eq_true', decide_eq_true_eq, List.isEmpty_eq_false_iff] at this
    exact this
  refine ⟨⟨of_decide_eq_true h1, fun s hs => (g2 s hs).1.1, fun s hs => (g2 s hs).1.2, fun i x y e f => ?_, fun t => ?_, of_decide_eq_true h5, fun t ht => ?_⟩, fun s hs => (g2 s hs).2⟩
  · have hi := (List.getElem?_eq_some_iff.mp f).1
    have := List.all_eq_true.mp h3 i (List.mem_range.mpr (by omega))
    rw [e, f] at this
    simpa using this
  · by_cases hm : t ∈ ss.flatten
    · exact of_decide_eq_true (List.all_eq_true.mp h4 t hm)
    · rw [List.count_eq_zero_of_not_mem hm]; omega
  · have := List.all_eq_true.mp h6 t (List.mem_range.mpr ht)
    simp only [beq_iff_eq] at this
    constructor
    · intro z
      rw [decide_eq_true z] at this
      exact of_decide_eq_true this.symm
    · intro z
      rw [decide_eq_true z] at this
      exact of_decide_eq_true this
theorem same_butX {x : Addr} {H H1 H2 : Hp} (s : Same H H1) (b : ButX x H1 H2) (n : H x = none) : Same H H2 := fun c o e => b c o (ne_of_none e n) (s c o e)
theorem blt_ty {H : Hp} {v : V} {T : String} (h : Blt K H v T) : TyX K H v (.type T) ∧ T ∈ ["NoneType", "int", "str", "tuple", "list", "dict"] := by
  cases h with
  | non => exact ⟨.base .non, by simp⟩
  | int i => exact ⟨.base (.int i), by simp⟩
  | str z => exact ⟨.base (.str z), by simp⟩
  | tup h => exact ⟨tyx_tup h, by simp⟩
  | lst h => exact ⟨tyx_lst h, by simp⟩
  | dic h => exact ⟨.base (.dK h), by simp⟩
theorem stars_nil {H : Hp} : Stars K H [] [] := ⟨rfl, fun i s e => by simp at e⟩
theorem Stars.cons {H : Hp} {a : Addr} {s : List Int} {xs : List V} {ss : List (List Int)} (h : SqT K H a (s.map V.int)) (t : Stars K H xs ss) : Stars K H (.ref a :: xs) (s :: ss) :=
  ⟨by rw [List.length_cons, List.length_cons, t.1], fun i u e => by
    cases i with
    | zero => cases e; exact ⟨a, rfl, h⟩
    | succ j => exact t.2 j u e⟩
theorem MSt.away {H : Hp} {m g b : Addr} {k : Int} (M : MSt H m g k) (n : H b = none) : b ≠ m ∧ b ≠ g := by
  obtain ⟨_, c, cs, gs, h1, h2, h3, _⟩ := M
  exact ⟨(ne_of_none h1 n).symm, (ne_of_none h3 n).symm⟩
theorem MSt.ne {H : Hp} {m g b : Addr} {k : Int} {o : HO} (M : MSt H m g k) (h : H b = some o) (n1 : ∀ kvs, o ≠ .dK kvs) (n2 : ∀ xs, o ≠ .lst xs) : b ≠ m ∧ b ≠ g := by
  obtain ⟨_, c, cs, gs, h1, h2, h3, _⟩ := M
  refine ⟨fun z => ?_, fun z => ?_⟩
  · rw [z, h1] at h
    exact n1 _ (Option.some.inj h).symm
  · rw [z, h3] at h
    exact n2 _ (Option.some.inj h).symm
theorem but_tup {H H' : Hp} {m g a : Addr} {k : Int} {xs : List V} (M : MSt H m g k) (B : But m g H H') (h : SqT K H a xs) : SqT K H' a xs := by
  rcases h with (h | ⟨o, h⟩) | h
  · have n := M.ne h (fun _ z => nomatch z) (fun _ z => nomatch z)
    exact .inl (.inl (B _ _ h n.1 n.2))
  · have n := M.ne h (fun _ z => nomatch z) (fun _ z => nomatch z)
    exact .inl (.inr ⟨o, B _ _ h n.1 n.2⟩)
  · exact .inr h
theorem but_stars {H H' : Hp} {m g : Addr} {k : Int} {xs : List V} {ss : List (List Int)} (M : MSt H m g k) (B : But m g H H') (h : Stars K H xs ss) : Stars K H' xs ss := ⟨h.1, fun i t e => let ⟨a, h1, h2⟩ := h.2 i t e; ⟨a, h1, but_tup M B h2⟩⟩
theorem but_web {H H' : Hp} {m g C x : Addr} {j : Int} {ss : List (List Int)} {k : Nat} (M : MSt H m g j) (B : But m g H H') (h : WebAt K C H x ss k) : WebAt K C H' x ss k := by
  obtain ⟨dx, p, q, xs, h1, h2, h3, as, z1, z2, z3⟩ := h
  have n := M.ne h1 (fun _ z => nomatch z) (fun _ z => nomatch z)
  exact ⟨dx, p, q, xs, B _ _ h1 n.1 n.2, but_tup M B h2, but_stars M B h3, as, z1, but_tup M B z2, fun t a e => but_tup M B (z3 t a e)⟩
end
/-- the values by which exceptions are made, as data -/
def qd : List PyData := [.none, .int 0, .int 7, .tuple [.int 1, .int 2], .str "x", .list [.int 3], .dict [], .int (10 ^ (40 : Int).toNat)]
def resD (i : Nat) (d : PyData) : PyData := .tuple (if i < 9 then [.str (wd i), d] else [.str (wd i)])
theorem all_shown : ((List.range 12).all fun i => qd.all fun d => shows (resD i d)) = true := by decide +kernel
theorem all_shown3 : (qd.all fun d => shows (.list [d, d, d])) = true := by decide +kernel
theorem bls_shown : shows (.list [.bool false, .bool false, .bool false]) = true := by decide +kernel
theorem res_shown {i : Nat} {d : PyData} (hi : i < 12) (h : d ∈ qd) : shows (resD i d) = true := List.all_eq_true.mp (List.all_eq_true.mp all_shown i (List.mem_range.mpr hi)) d h
theorem res_de {K : PySem.W.Frag} {H : Hp} {p : Addr} {i : Nat} {v : V} {d : PyData} (h : SqT K H p (res i v)) (hd : De K H v d) : De K H (.ref p) (resD i d) := by
  unfold res at h
  unfold resD
  by_cases z : i < 9
  · rw [if_pos z] at h ⊢
    exact .tup h (.cons (.str _) (.cons hd .nil))
  · rw [if_neg z] at h ⊢
    exact .tup h (.cons (.str _) .nil)
theorem wd_get {i : Nat} (hi : i < 12) : (([.str "BadStars", .str "BadEnds", .str "BadDeed", .str "BadText", .str "BadSet", .str "BadNumber", .str "BadTree", .str "TooGreat", .str "BadName", .str "OtherTies", .str "Apart", .str "NothingLeft"] : List V)[i]?) = some (.str (wd i)) := by
  match i, hi with
  | 0, _ => rfl
  | 1, _ => rfl
  | 2, _ => rfl
  | 3, _ => rfl
  | 4, _ => rfl
  | 5, _ => rfl
  | 6, _ => rfl
  | 7, _ => rfl
  | 8, _ => rfl
  | 9, _ => rfl
  | 10, _ => rfl
  | 11, _ => rfl
theorem ite_mono {c : Prop} [Decidable c] {A B : VK → Prop} {Q : VK} (S : V → Hp → Prop) (hA : c → ∀ Q : VK, (∀ v H, S v H → Q v H) → A Q) (hB : ¬ c → ∀ Q : VK, (∀ v H, S v H → Q v H) → B Q) (k : ∀ v H, S v H → Q v H) : if c then A Q else B Q := by
  by_cases z : c
  · rw [if_pos z]; exact hA z Q k
  · rw [if_neg z]; exact hB z Q k
theorem goodW : goodB [[0, 1], [0, 1]] 2 = true := by decide +kernel
section
variable {P : Program} {w : World} {K : PySem.W.Frag} {mg : Str → Option Value} {base : Heap}
def spLaw (K : PySem.W.Frag) : Sp := fun vs H Q _ => ∃ (a : Addr) (ns : List Int), vs = [.ref a] ∧ SqL K H a (ns.map V.int) ∧ ns.length ≤ 63 ∧ ∀ H', Q (.bl true) H'
theorem scLaw : FnScope ["script", "m", "q", "some", "words", "n", "due", "told", "own", "odd"] ["script"] (defScope sLaw) := ⟨rfl, rfl, rfl, by decide +kernel, rfl, by decide +kernel, by decide +kernel⟩
theorem ok_law {f fB fD fC fI fQ C c0 c1 c2 c3 c4 c5 c6 c7 c8 c9 c10 c11 cR : Addr} {fd fdB fdD fdC fdI fdQ : FuncData} (F : Fun K "law" "law" sLaw f fd) (T : Errs P K mg c0 c1 c2 c3 c4 c5 c6 c7 c8 c9 c10 c11 cR)
    (GB : FnOk P w K mg base CX0 2 fB fdB ["script"] (spBegun K)) (gB : mg "_law_begun" = some (.ref fB)) (kB : PySem.W.keepIn K (.ref fB) = true) (bB : Binds K fdB ["script"] [])
    (GD : FnOk P w K mg base CX0 2 fD fdD ["m", "limit"] spDraw) (gD : mg "_law_draw" = some (.ref fD)) (kD : PySem.W.keepIn K (.ref fD) = true) (bD : Binds K fdD ["m", "limit"] [])
    (GC : FnOk P w K mg base CX0 1 fC fdC ["error"] (spClass K [c0, c1, c2, c3, c4, c5, c6, c7, c8, c9, c10, c11])) (gC : mg "_law_class" = some (.ref fC)) (kC : PySem.W.keepIn K (.ref fC) = true) (bC : Binds K fdC ["error"] [])
    (GI : FnOk P w K mg base CX0 4 fI fdI ["self", "stars"] (spWInit K C)) (bI : Binds K fdI ["self", "stars"] []) (M : Mk K C fI) (Tw : WebC K mg C) (TI : WebI K C)
    (GQ : FnOk P w K mg base CX0 1 fQ fdQ ["self", "other"] (spWEq K C)) (bQ : Binds K fdQ ["self", "other"] []) (TE : WebE K C fQ) (tS : ∃ m, base.Ns sysModules m)
    (mre : mg "repr" = none) (mis : mg "isinstance" = none) (mra : mg "range" = none) (mve : mg "ValueError" = none) (mov : mg "OverflowError" = none) : FnG P w K mg base CX0 6 f fd ["script"] (spLaw K) := by
  refine okG F scLaw (fun vs H Q E h => ?_) (fun cdv A outer s H vs Q E hgd hr h => ?_)
  · obtain ⟨a, ns, rfl, _⟩ := h
    rfl
  · obtain ⟨a, ns, rfl, hS, hl, q⟩ := h
    have hr2 : Room 2 _ := hr.mono (by decide)
    have hr1 : Room 1 _ := hr.mono (by decide)
    refine ⟨_, (pss_cons (ps_set (i := 1) scLaw.nd rfl (.inl rfl) (pe_call GB hr2 (by rfl) gB kB bB .nil pass0 (pa_cons (pv 0) pa_nil)))
      (pss_cons (ps_set (i := 2) scLaw.nd rfl (.inl rfl) (pe_ix ix_list (pe_lst (pa_cons pe_non (pa_cons pe_int (pa_cons pe_int (pa_cons (pe_tup (pa_cons pe_int (pa_cons pe_int pa_nil))) (pa_cons pe_str (pa_cons (pe_lst (pa_cons pe_int pa_nil)) (pa_cons pe_dnewK (pa_cons (pe_op op_pow pe_int pe_int) pa_nil))))))))) (pe_call GD hr2 (by rfl) gD kD bD .nil pass0 (pa_cons (pv 1) (pa_cons pe_int pa_nil))) (fun _ _ => rfl)))
      (pss_cons (ps_set (i := 3) scLaw.nd rfl (.inl rfl) (pe_lst (pa_cons (pe_ex1 T.r0.m1 hr1 T.r0.g T.r0.k (by rfl) (pv 2)) (pa_cons (pe_ex1 T.r1.m1 hr1 T.r1.g T.r1.k (by rfl) (pv 2)) (pa_cons (pe_ex1 T.r2.m1 hr1 T.r2.g T.r2.k (by rfl) (pv 2)) (pa_cons (pe_ex1 T.r3.m1 hr1 T.r3.g T.r3.k (by rfl) (pv 2)) (pa_cons (pe_ex1 T.r4.m1 hr1 T.r4.g T.r4.k (by rfl) (pv 2)) (pa_cons (pe_ex1 T.r5.m1 hr1 T.r5.g T.r5.k (by rfl) (pv 2)) (pa_cons (pe_ex1 T.r6.m1 hr1 T.r6.g T.r6.k (by rfl) (pv 2)) (pa_cons (pe_ex1 T.r7.m1 hr1 T.r7.g T.r7.k (by rfl) (pv 2)) pa_nil))))))))))
      (pss_cons (ps_set (i := 3) scLaw.nd rfl (.inl rfl) (pe_op op_cat (pv 3) (pe_lst (pa_cons (pe_ex1 T.r8.m1 hr1 T.r8.g T.r8.k (by rfl) (pv 2)) (pa_cons (pe_ex0 T.r9.m0 hr1 T.r9.g T.r9.k (by rfl)) (pa_cons (pe_ex0 T.r10.m0 hr1 T.r10.g T.r10.k (by rfl)) (pa_cons (pe_ex0 T.r11.m0 hr1 T.r11.g T.r11.k (by rfl)) pa_nil)))))))
      (pss_cons (ps_set (i := 4) scLaw.nd rfl (.inl rfl) (pe_lst (pa_cons pe_str (pa_cons pe_str (pa_cons pe_str (pa_cons pe_str (pa_cons pe_str (pa_cons pe_str (pa_cons pe_str (pa_cons pe_str pa_nil))))))))))
      (pss_cons (ps_set (i := 4) scLaw.nd rfl (.inl rfl) (pe_op op_cat (pv 4) (pe_lst (pa_cons pe_str (pa_cons pe_str (pa_cons pe_str (pa_cons pe_str pa_nil)))))))
      (pss_cons (ps_for PassesOwn.never rfl (pi_range1 (by rfl) mra (pa_cons pe_int pa_nil)) (pg_name (i := 5) scLaw.nd rfl (.inl rfl)) (pss_cons (ps_set (i := 6) scLaw.nd rfl (.inl rfl) (pe_ifExp (pt_cmpR op_lt (pv 5) pe_int (nomark _)) (pe_tup (pa_cons (pe_ix ix_list (pv 4) (pv 5) (fun _ _ => rfl)) (pa_cons (pv 2) pa_nil))) (pe_tup (pa_cons (pe_ix ix_list (pv 4) (pv 5) (fun _ _ => rfl)) pa_nil))))
      (pss_cons (ps_if (pt_cmpR op_ne (pe_callB (id := "repr") (call_repE (K := K) rfl tS hgd hr.units) (by rfl) mre (by decide +kernel) (pa_cons (pe_call GC hr1 (by rfl) gC kC bC .nil pass0 (pa_cons (pe_ix ix_list (pv 3) (pv 5) (fun _ _ => rfl)) pa_nil)) pa_nil)) (pe_callB (id := "repr") (call_repE (K := K) rfl tS hgd hr.units) (by rfl) mre (by decide +kernel) (pa_cons (pv 6) pa_nil)) (nomark _)) (pss_one (ps_ret pe_bl)) pss_nil)
      (pss_cons (ps_if (PW.pt (pw_or (pt_cmpR op_ne (pe_callB call_isX (by rfl) mis (by decide +kernel) (pa_cons (pe_ix ix_list (pv 3) (pv 5) (fun _ _ => rfl)) (pa_cons (pe_glob (v := .ref cR) (by rfl) T.gR rfl) pa_nil))) (pe_cmpR op_ne (pv 5) pe_int (nomark _)) (nomark _)) (pw_or1 (pt_cmpR op_ne (pe_callB call_isX (by rfl) mis (by decide +kernel) (pa_cons (pe_ix ix_list (pv 3) (pv 5) (fun _ _ => rfl)) (pa_cons (pe_bltn (v := .ty "ValueError") (u := .type "ValueError") (by rfl) mve (by decide +kernel) rfl) pa_nil))) (pe_cmpR op_ne (pv 5) pe_int (nomark _)) (nomark _))))) (pss_one (ps_ret pe_bl)) pss_nil)
      (pss_one (ps_if (pt_cmpR op_ne (pe_callB call_isX (by rfl) mis (by decide +kernel) (pa_cons (pe_ix ix_list (pv 3) (pv 5) (fun _ _ => rfl)) (pa_cons (pe_bltn (v := .ty "OverflowError") (u := .type "OverflowError") (by rfl) mov (by decide +kernel) rfl) pa_nil))) (pe_cmpR op_eq (pv 5) pe_int (nomark _)) (nomark _)) (pss_one (ps_ret pe_bl)) pss_nil))))))
      (pss_cons (ps_set (i := 7) scLaw.nd rfl (.inl rfl) (pe_lst (pa_cons (pe_exF (pe_exK T.r3.mK hr1 T.r3.g T.r3.k (by rfl) (pv 2))) (pa_cons (pe_exF (pe_exK T.r6.mK hr1 T.r6.g T.r6.k (by rfl) (pv 2))) (pa_cons (pe_exF (pe_exK T.r7.mK hr1 T.r7.g T.r7.k (by rfl) (pv 2))) pa_nil)))))
      (pss_cons (ps_if (pt_cmpR op_ne (pe_callB (id := "repr") (call_repE (K := K) rfl tS hgd hr.units) (by rfl) mre (by decide +kernel) (pa_cons (pv 7) pa_nil)) (pe_callB (id := "repr") (call_repE (K := K) rfl tS hgd hr.units) (by rfl) mre (by decide +kernel) (pa_cons (pe_op op_rep (pe_lst (pa_cons (pv 2) pa_nil)) pe_int) pa_nil)) (nomark _)) (pss_one (ps_ret pe_bl)) pss_nil)
      (pss_cons (ps_set (i := 8) scLaw.nd rfl (.inl rfl) (pe_make M GI hr (by rfl) Tw.g bI .nil pass0 (pa_cons (pe_lst (pa_cons (pe_tup (pa_cons pe_int (pa_cons pe_int pa_nil))) (pa_cons (pe_tup (pa_cons pe_int (pa_cons pe_int pa_nil))) pa_nil))) pa_nil)))
      (pss_cons (ps_set (i := 9) scLaw.nd rfl (.inl rfl) (pe_ix ix_list (pe_lst (pa_cons pe_non (pa_cons (pe_tup (pa_cons (pe_tup (pa_cons pe_int (pa_cons pe_int pa_nil))) (pa_cons (pe_tup (pa_cons pe_int (pa_cons pe_int pa_nil))) pa_nil))) (pa_cons (pe_lst (pa_cons (pe_tup (pa_cons pe_int (pa_cons pe_int pa_nil))) (pa_cons (pe_tup (pa_cons pe_int (pa_cons pe_int pa_nil))) pa_nil))) (pa_cons pe_int (pa_cons pe_str (pa_cons pe_dnewK (pa_cons (pv 2) pa_nil)))))))) (pe_call GD hr2 (by rfl) gD kD bD .nil pass0 (pa_cons (pv 1) (pa_cons pe_int pa_nil))) (fun _ _ => rfl)))
      (pss_cons (ps_set (i := 7) scLaw.nd rfl (.inl rfl) (pe_lst (pa_cons (pe_cmpR (op_weq GQ TE.at_ TE.fn bQ hr1 pass0) (pv 8) (pv 9) (nomark _)) (pa_cons (pe_cmpR (op_back GQ TE.at_ TE.fn bQ TE.sub hr1 pass0) (pv 9) (pv 8) (nomark _)) (pa_cons (pe_cmpR (op_wne GQ TE.at_ TE.fn bQ TI.hm TE.ne hr2 pass0) (pv 8) (pe_make M GI hr (by rfl) Tw.g bI .nil pass0 (pa_cons (pe_tup (pa_cons (pe_tup (pa_cons pe_int (pa_cons pe_int pa_nil))) (pa_cons (pe_tup (pa_cons pe_int (pa_cons pe_int pa_nil))) pa_nil))) pa_nil)) (nomark _)) pa_nil)))))
      (pss_one (ps_ret (pe_cmpR op_eq (pe_callB (id := "repr") (call_repE (K := K) rfl tS hgd hr.units) (by rfl) mre (by decide +kernel) (pa_cons (pv 7) pa_nil)) (pe_callB (id := "repr") (call_repE (K := K) rfl tS hgd hr.units) (by rfl) mre (by decide +kernel) (pa_cons (pe_lst (pa_cons pe_bl (pa_cons pe_bl (pa_cons pe_bl pa_nil)))) pa_nil)) (nomark _)))))))))))))))), ?_⟩
    refine ⟨_, rfl, a, ns, rfl, hS, hl, fun H1 m g s1 nm ng M1 => ?_⟩
    refine ⟨by show 2 ≤ sizeLine; decide, fun p1 np1 => ?_⟩
    have a_p1 := M1.away np1
    have sA := sameN (o := .tup [V.int 1, V.int 2]) np1
    have e_p1 : (upd H1 p1 (.tup [V.int 1, V.int 2])) p1 = some (.tup [V.int 1, V.int 2]) := upd_same
    replace M1 := M1.same sA
    generalize upd H1 p1 (.tup [V.int 1, V.int 2]) = A2 at sA e_p1 M1   ⊢
    clear sA np1
    refine ⟨by show 1 ≤ sizeLine; decide, fun p2 np2 => ?_⟩
    have a_p2 := M1.away np2
    have sA := sameN (o := .lst [V.int 3]) np2
    have e_p2 : (upd A2 p2 (.lst [V.int 3])) p2 = some (.lst [V.int 3]) := upd_same
    replace e_p1 := sA _ _ e_p1
    replace M1 := M1.same sA
    generalize upd A2 p2 (.lst [V.int 3]) = A3 at sA e_p2 M1 e_p1  ⊢
    clear sA np2
    refine fun p3 np3 => ?_
    have a_p3 := M1.away np3
    have sA := sameN (o := .dK []) np3
    have e_p3 : (upd A3 p3 (.dK [])) p3 = some (.dK []) := upd_same
    replace e_p1 := sA _ _ e_p1
    replace e_p2 := sA _ _ e_p2
    replace M1 := M1.same sA
    generalize upd A3 p3 (.dK []) = A4 at sA e_p3 M1 e_p1 e_p2  ⊢
    clear sA np3
    refine ⟨10, 40, rfl, rfl, ⟨by decide, by decide, by decide⟩, ?_⟩
    refine ⟨by show 8 ≤ sizeLine; decide, fun p4 np4 => ?_⟩
    have a_p4 := M1.away np4
    have sA := sameN (o := .lst [V.non, .int 0, .int 7, .ref p1, .str "x", .ref p2, .ref p3, .int (10 ^ (40 : Int).toNat)]) np4
    have e_p4 : (upd A4 p4 (.lst [V.non, .int 0, .int 7, .ref p1, .str "x", .ref p2, .ref p3, .int (10 ^ (40 : Int).toNat)])) p4 = some (.lst [V.non, .int 0, .int 7, .ref p1, .str "x", .ref p2, .ref p3, .int (10 ^ (40 : Int).toNat)]) := upd_same
    replace e_p1 := sA _ _ e_p1
    replace e_p2 := sA _ _ e_p2
    replace e_p3 := sA _ _ e_p3
    replace M1 := M1.same sA
    generalize upd A4 p4 (.lst [V.non, .int 0, .int 7, .ref p1, .str "x", .ref p2, .ref p3, .int (10 ^ (40 : Int).toNat)]) = A5 at sA e_p4 M1 e_p1 e_p2 e_p3  ⊢
    clear sA np4
    refine ⟨_, rfl, m, g, 0, 8, rfl, M1, by decide, by decide, by decide, fun r B1 r0 r1 M2 B6 => ?_⟩
    replace e_p1 := B6 _ _ e_p1 a_p1.1 a_p1.2
    replace e_p2 := B6 _ _ e_p2 a_p2.1 a_p2.2
    replace e_p3 := B6 _ _ e_p3 a_p3.1 a_p3.2
    replace e_p4 := B6 _ _ e_p4 a_p4.1 a_p4.2
    clear M1 B6
    have pick : ∃ v d, atI [V.non, .int 0, .int 7, .ref p1, .str "x", .ref p2, .ref p3, .int (10 ^ (40 : Int).toNat)] r = some v ∧ d ∈ qd ∧ ∀ H', H' p1 = some (.tup [V.int 1, V.int 2]) → H' p2 = some (.lst [V.int 3]) → H' p3 = some (.dK []) → De K H' v d ∧ ∃ T, Blt K H' v T := by
      obtain ⟨n, rfl⟩ := Int.eq_ofNat_of_zero_le r0
      have hn : n < 8 := by omega
      match n, hn with
      | 0, _ => exact ⟨_, .none, rfl, by simp [qd], fun H' h1 h2 h3 => ⟨.non, _, .non⟩⟩
      | 1, _ => exact ⟨_, .int 0, rfl, by simp [qd], fun H' h1 h2 h3 => ⟨.int _, _, .int _⟩⟩
      | 2, _ => exact ⟨_, .int 7, rfl, by simp [qd], fun H' h1 h2 h3 => ⟨.int _, _, .int _⟩⟩
      | 3, _ => exact ⟨_, .tuple [.int 1, .int 2], rfl, by simp [qd], fun H' h1 h2 h3 => ⟨.tup (SqT.of h1) (.cons (.int _) (.cons (.int _) .nil)), _, .tup (SqT.of h1)⟩⟩
      | 4, _ => exact ⟨_, .str "x", rfl, by simp [qd], fun H' h1 h2 h3 => ⟨.str _, _, .str _⟩⟩
      | 5, _ => exact ⟨_, .list [.int 3], rfl, by simp [qd], fun H' h1 h2 h3 => ⟨.lst (SqL.of h2) (.cons (.int _) .nil), _, .lst (SqL.of h2)⟩⟩
      | 6, _ => exact ⟨_, .dict [], rfl, by simp [qd], fun H' h1 h2 h3 => ⟨.emp h3, _, .dic h3⟩⟩
      | 7, _ => exact ⟨_, .int _, rfl, by simp [qd], fun H' h1 h2 h3 => ⟨.int _, _, .int _⟩⟩
    obtain ⟨v, d, hv, hd, hq⟩ := pick
    refine ⟨p4, _, r, v, rfl, rfl, SqL.of e_p4, hv, ?_⟩
    clear e_p4
    clear hv r0 r1
    refine ⟨v, rfl, fun e0 d0 x1 x2 x3 => ?_⟩
    obtain ⟨sA, i0⟩ := made (C := c0) (f := "place") (v := v) x1 x2 x3
    replace e_p1 := sA _ _ e_p1
    replace e_p2 := sA _ _ e_p2
    replace e_p3 := sA _ _ e_p3
    replace M2 := M2.same sA
    generalize upd (upd B1 d0 (.xd [("place", v)])) e0 (exV e0 c0 (some d0)) = A6 at sA i0 M2 e_p1 e_p2 e_p3 ⊢
    clear sA x1 x2 x3
    refine ⟨v, rfl, fun e1 d1 x1 x2 x3 => ?_⟩
    obtain ⟨sA, i1⟩ := made (C := c1) (f := "place") (v := v) x1 x2 x3
    replace e_p1 := sA _ _ e_p1
    replace e_p2 := sA _ _ e_p2
    replace e_p3 := sA _ _ e_p3
    replace i0 := i0.same sA
    replace M2 := M2.same sA
    generalize upd (upd A6 d1 (.xd [("place", v)])) e1 (exV e1 c1 (some d1)) = A7 at sA i1 M2 e_p1 e_p2 e_p3 i0 ⊢
    clear sA x1 x2 x3
    refine ⟨v, rfl, fun e2 d2 x1 x2 x3 => ?_⟩
    obtain ⟨sA, i2⟩ := made (C := c2) (f := "place") (v := v) x1 x2 x3
    replace e_p1 := sA _ _ e_p1
    replace e_p2 := sA _ _ e_p2
    replace e_p3 := sA _ _ e_p3
    replace i0 := i0.same sA
    replace i1 := i1.same sA
    replace M2 := M2.same sA
    generalize upd (upd A7 d2 (.xd [("place", v)])) e2 (exV e2 c2 (some d2)) = A8 at sA i2 M2 e_p1 e_p2 e_p3 i0 i1 ⊢
    clear sA x1 x2 x3
    refine ⟨v, rfl, fun e3 d3 x1 x2 x3 => ?_⟩
    obtain ⟨sA, i3⟩ := made (C := c3) (f := "place") (v := v) x1 x2 x3
    replace e_p1 := sA _ _ e_p1
    replace e_p2 := sA _ _ e_p2
    replace e_p3 := sA _ _ e_p3
    replace i0 := i0.same sA
    replace i1 := i1.same sA
    replace i2 := i2.same sA
    replace M2 := M2.same sA
    generalize upd (upd A8 d3 (.xd [("place", v)])) e3 (exV e3 c3 (some d3)) = A9 at sA i3 M2 e_p1 e_p2 e_p3 i0 i1 i2 ⊢
    clear sA x1 x2 x3
    refine ⟨v, rfl, fun e4 d4 x1 x2 x3 => ?_⟩
    obtain ⟨sA, i4⟩ := made (C := c4) (f := "value") (v := v) x1 x2 x3
    replace e_p1 := sA _ _ e_p1
    replace e_p2 := sA _ _ e_p2
    replace e_p3 := sA _ _ e_p3
    replace i0 := i0.same sA
    replace i1 := i1.same sA
    replace i2 := i2.same sA
    replace i3 := i3.same sA
    replace M2 := M2.same sA
    generalize upd (upd A9 d4 (.xd [("value", v)])) e4 (exV e4 c4 (some d4)) = A10 at sA i4 M2 e_p1 e_p2 e_p3 i0 i1 i2 i3 ⊢
    clear sA x1 x2 x3
    refine ⟨v, rfl, fun e5 d5 x1 x2 x3 => ?_⟩
    obtain ⟨sA, i5⟩ := made (C := c5) (f := "value") (v := v) x1 x2 x3
    replace e_p1 := sA _ _ e_p1
    replace e_p2 := sA _ _ e_p2
    replace e_p3 := sA _ _ e_p3
    replace i0 := i0.same sA
    replace i1 := i1.same sA
    replace i2 := i2.same sA
    replace i3 := i3.same sA
    replace i4 := i4.same sA
    replace M2 := M2.same sA
    generalize upd (upd A10 d5 (.xd [("value", v)])) e5 (exV e5 c5 (some d5)) = A11 at sA i5 M2 e_p1 e_p2 e_p3 i0 i1 i2 i3 i4 ⊢
    clear sA x1 x2 x3
    refine ⟨v, rfl, fun e6 d6 x1 x2 x3 => ?_⟩
    obtain ⟨sA, i6⟩ := made (C := c6) (f := "value") (v := v) x1 x2 x3
    replace e_p1 := sA _ _ e_p1
    replace e_p2 := sA _ _ e_p2
    replace e_p3 := sA _ _ e_p3
    replace i0 := i0.same sA
    replace i1 := i1.same sA
    replace i2 := i2.same sA
    replace i3 := i3.same sA
    replace i4 := i4.same sA
    replace i5 := i5.same sA
    replace M2 := M2.same sA
    generalize upd (upd A11 d6 (.xd [("value", v)])) e6 (exV e6 c6 (some d6)) = A12 at sA i6 M2 e_p1 e_p2 e_p3 i0 i1 i2 i3 i4 i5 ⊢
    clear sA x1 x2 x3
    refine ⟨v, rfl, fun e7 d7 x1 x2 x3 => ?_⟩
    obtain ⟨sA, i7⟩ := made (C := c7) (f := "most") (v := v) x1 x2 x3
    replace e_p1 := sA _ _ e_p1
    replace e_p2 := sA _ _ e_p2
    replace e_p3 := sA _ _ e_p3
    replace i0 := i0.same sA
    replace i1 := i1.same sA
    replace i2 := i2.same sA
    replace i3 := i3.same sA
    replace i4 := i4.same sA
    replace i5 := i5.same sA
    replace i6 := i6.same sA
    replace M2 := M2.same sA
    generalize upd (upd A12 d7 (.xd [("most", v)])) e7 (exV e7 c7 (some d7)) = A13 at sA i7 M2 e_p1 e_p2 e_p3 i0 i1 i2 i3 i4 i5 i6 ⊢
    clear sA x1 x2 x3
    refine ⟨by show 8 ≤ sizeLine; decide, fun l1 nl1 => ?_⟩
    have a_l1 := M2.away nl1
    have sA := sameN (o := .lst [.ref e0, .ref e1, .ref e2, .ref e3, .ref e4, .ref e5, .ref e6, .ref e7]) nl1
    have e_l1 : (upd A13 l1 (.lst [.ref e0, .ref e1, .ref e2, .ref e3, .ref e4, .ref e5, .ref e6, .ref e7])) l1 = some (.lst [.ref e0, .ref e1, .ref e2, .ref e3, .ref e4, .ref e5, .ref e6, .ref e7]) := upd_same
    replace e_p1 := sA _ _ e_p1
    replace e_p2 := sA _ _ e_p2
    replace e_p3 := sA _ _ e_p3
    replace i0 := i0.same sA
    replace i1 := i1.same sA
    replace i2 := i2.same sA
    replace i3 := i3.same sA
    replace i4 := i4.same sA
    replace i5 := i5.same sA
    replace i6 := i6.same sA
    replace i7 := i7.same sA
    replace M2 := M2.same sA
    generalize upd A13 l1 (.lst [.ref e0, .ref e1, .ref e2, .ref e3, .ref e4, .ref e5, .ref e6, .ref e7]) = A14 at sA e_l1 M2 e_p1 e_p2 e_p3 i0 i1 i2 i3 i4 i5 i6 i7  ⊢
    clear sA nl1
    refine ⟨_, rfl, ?_⟩
    refine ⟨v, rfl, fun e8 d8 x1 x2 x3 => ?_⟩
    obtain ⟨sA, i8⟩ := made (C := c8) (f := "value") (v := v) x1 x2 x3
    replace e_p1 := sA _ _ e_p1
    replace e_p2 := sA _ _ e_p2
    replace e_p3 := sA _ _ e_p3
    replace i0 := i0.same sA
    replace i1 := i1.same sA
    replace i2 := i2.same sA
    replace i3 := i3.same sA
    replace i4 := i4.same sA
    replace i5 := i5.same sA
    replace i6 := i6.same sA
    replace i7 := i7.same sA
    replace e_l1 := sA _ _ e_l1
    replace M2 := M2.same sA
    generalize upd (upd A14 d8 (.xd [("value", v)])) e8 (exV e8 c8 (some d8)) = A15 at sA i8 M2 e_p1 e_p2 e_p3 i0 i1 i2 i3 i4 i5 i6 i7 e_l1 ⊢
    clear sA x1 x2 x3
    refine fun e9 x1 => ?_
    have sA := sameN (o := exV e9 c9 none) x1
    replace e_p1 := sA _ _ e_p1
    replace e_p2 := sA _ _ e_p2
    replace e_p3 := sA _ _ e_p3
    replace i0 := i0.same sA
    replace i1 := i1.same sA
    replace i2 := i2.same sA
    replace i3 := i3.same sA
    replace i4 := i4.same sA
    replace i5 := i5.same sA
    replace i6 := i6.same sA
    replace i7 := i7.same sA
    replace e_l1 := sA _ _ e_l1
    replace i8 := i8.same sA
    replace M2 := M2.same sA
    have i9 : ExOf (upd A15 e9 (exV e9 c9 none)) e9 c9 := exOf_n upd_same
    generalize upd A15 e9 (exV e9 c9 none) = A16 at sA i9 M2 e_p1 e_p2 e_p3 i0 i1 i2 i3 i4 i5 i6 i7 e_l1 i8 ⊢
    clear sA x1
    refine fun e10 x1 => ?_
    have sA := sameN (o := exV e10 c10 none) x1
    replace e_p1 := sA _ _ e_p1
    replace e_p2 := sA _ _ e_p2
    replace e_p3 := sA _ _ e_p3
    replace i0 := i0.same sA
    replace i1 := i1.same sA
    replace i2 := i2.same sA
    replace i3 := i3.same sA
    replace i4 := i4.same sA
    replace i5 := i5.same sA
    replace i6 := i6.same sA
    replace i7 := i7.same sA
    replace e_l1 := sA _ _ e_l1
    replace i8 := i8.same sA
    replace i9 := i9.same sA
    replace M2 := M2.same sA
    have i10 : ExOf (upd A16 e10 (exV e10 c10 none)) e10 c10 := exOf_n upd_same
    generalize upd A16 e10 (exV e10 c10 none) = A17 at sA i10 M2 e_p1 e_p2 e_p3 i0 i1 i2 i3 i4 i5 i6 i7 e_l1 i8 i9 ⊢
    clear sA x1
    refine fun e11 x1 => ?_
    have sA := sameN (o := exV e11 c11 none) x1
    replace e_p1 := sA _ _ e_p1
    replace e_p2 := sA _ _ e_p2
    replace e_p3 := sA _ _ e_p3
    replace i0 := i0.same sA
    replace i1 := i1.same sA
    replace i2 := i2.same sA
    replace i3 := i3.same sA
    replace i4 := i4.same sA
    replace i5 := i5.same sA
    replace i6 := i6.same sA
    replace i7 := i7.same sA
    replace e_l1 := sA _ _ e_l1
    replace i8 := i8.same sA
    replace i9 := i9.same sA
    replace i10 := i10.same sA
    replace M2 := M2.same sA
    have i11 : ExOf (upd A17 e11 (exV e11 c11 none)) e11 c11 := exOf_n upd_same
    generalize upd A17 e11 (exV e11 c11 none) = A18 at sA i11 M2 e_p1 e_p2 e_p3 i0 i1 i2 i3 i4 i5 i6 i7 e_l1 i8 i9 i10 ⊢
    clear sA x1
    refine ⟨by show 4 ≤ sizeLine; decide, fun l2 nl2 => ?_⟩
    have a_l2 := M2.away nl2
    have sA := sameN (o := .lst [.ref e8, .ref e9, .ref e10, .ref e11]) nl2
    have e_l2 : (upd A18 l2 (.lst [.ref e8, .ref e9, .ref e10, .ref e11])) l2 = some (.lst [.ref e8, .ref e9, .ref e10, .ref e11]) := upd_same
    replace e_p1 := sA _ _ e_p1
    replace e_p2 := sA _ _ e_p2
    replace e_p3 := sA _ _ e_p3
    replace i0 := i0.same sA
    replace i1 := i1.same sA
    replace i2 := i2.same sA
    replace i3 := i3.same sA
    replace i4 := i4.same sA
    replace i5 := i5.same sA
    replace i6 := i6.same sA
    replace i7 := i7.same sA
    replace e_l1 := sA _ _ e_l1
    replace i8 := i8.same sA
    replace i9 := i9.same sA
    replace i10 := i10.same sA
    replace i11 := i11.same sA
    replace M2 := M2.same sA
    generalize upd A18 l2 (.lst [.ref e8, .ref e9, .ref e10, .ref e11]) = A19 at sA e_l2 M2 e_p1 e_p2 e_p3 i0 i1 i2 i3 i4 i5 i6 i7 e_l1 i8 i9 i10 i11  ⊢
    clear sA nl2
    refine ⟨l1, l2, _, _, rfl, rfl, e_l1, e_l2, by show 12 ≤ sizeLine; decide, fun l3 nl3 => ?_⟩
    simp only [List.cons_append, List.nil_append]
    have a_l3 := M2.away nl3
    have sA := sameN (o := .lst [.ref e0, .ref e1, .ref e2, .ref e3, .ref e4, .ref e5, .ref e6, .ref e7, .ref e8, .ref e9, .ref e10, .ref e11]) nl3
    have e_l3 : (upd A19 l3 (.lst [.ref e0, .ref e1, .ref e2, .ref e3, .ref e4, .ref e5, .ref e6, .ref e7, .ref e8, .ref e9, .ref e10, .ref e11])) l3 = some (.lst [.ref e0, .ref e1, .ref e2, .ref e3, .ref e4, .ref e5, .ref e6, .ref e7, .ref e8, .ref e9, .ref e10, .ref e11]) := upd_same
    replace e_p1 := sA _ _ e_p1
    replace e_p2 := sA _ _ e_p2
    replace e_p3 := sA _ _ e_p3
    replace i0 := i0.same sA
    replace i1 := i1.same sA
    replace i2 := i2.same sA
    replace i3 := i3.same sA
    replace i4 := i4.same sA
    replace i5 := i5.same sA
    replace i6 := i6.same sA
    replace i7 := i7.same sA
    replace e_l1 := sA _ _ e_l1
    replace i8 := i8.same sA
    replace i9 := i9.same sA
    replace i10 := i10.same sA
    replace i11 := i11.same sA
    replace e_l2 := sA _ _ e_l2
    replace M2 := M2.same sA
    generalize upd A19 l3 (.lst [.ref e0, .ref e1, .ref e2, .ref e3, .ref e4, .ref e5, .ref e6, .ref e7, .ref e8, .ref e9, .ref e10, .ref e11]) = A20 at sA e_l3 M2 e_p1 e_p2 e_p3 i0 i1 i2 i3 i4 i5 i6 i7 e_l1 i8 i9 i10 i11 e_l2  ⊢
    clear sA nl3
    clear e_l1 e_l2
    refine ⟨by show 8 ≤ sizeLine; decide, fun y1 ny1 => ?_⟩
    have a_y1 := M2.away ny1
    have sA := sameN (o := .lst [.str "BadStars", .str "BadEnds", .str "BadDeed", .str "BadText", .str "BadSet", .str "BadNumber", .str "BadTree", .str "TooGreat"]) ny1
    have e_y1 : (upd A20 y1 (.lst [.str "BadStars", .str "BadEnds", .str "BadDeed", .str "BadText", .str "BadSet", .str "BadNumber", .str "BadTree", .str "TooGreat"])) y1 = some (.lst [.str "BadStars", .str "BadEnds", .str "BadDeed", .str "BadText", .str "BadSet", .str "BadNumber", .str "BadTree", .str "TooGreat"]) := upd_same
    replace e_p1 := sA _ _ e_p1
    replace e_p2 := sA _ _ e_p2
    replace e_p3 := sA _ _ e_p3
    replace i0 := i0.same sA
    replace i1 := i1.same sA
    replace i2 := i2.same sA
    replace i3 := i3.same sA
    replace i4 := i4.same sA
    replace i5 := i5.same sA
    replace i6 := i6.same sA
    replace i7 := i7.same sA
    replace i8 := i8.same sA
    replace i9 := i9.same sA
    replace i10 := i10.same sA
    replace i11 := i11.same sA
    replace e_l3 := sA _ _ e_l3
    replace M2 := M2.same sA
    generalize upd A20 y1 (.lst [.str "BadStars", .str "BadEnds", .str "BadDeed", .str "BadText", .str "BadSet", .str "BadNumber", .str "BadTree", .str "TooGreat"]) = A21 at sA e_y1 M2 e_p1 e_p2 e_p3 i0 i1 i2 i3 i4 i5 i6 i7 i8 i9 i10 i11 e_l3  ⊢
    clear sA ny1
    refine ⟨_, rfl, ?_⟩
    refine ⟨by show 4 ≤ sizeLine; decide, fun y2 ny2 => ?_⟩
    have a_y2 := M2.away ny2
    have sA := sameN (o := .lst [.str "BadName", .str "OtherTies", .str "Apart", .str "NothingLeft"]) ny2
    have e_y2 : (upd A21 y2 (.lst [.str "BadName", .str "OtherTies", .str "Apart", .str "NothingLeft"])) y2 = some (.lst [.str "BadName", .str "OtherTies", .str "Apart", .str "NothingLeft"]) := upd_same
    replace e_p1 := sA _ _ e_p1
    replace e_p2 := sA _ _ e_p2
    replace e_p3 := sA _ _ e_p3
    replace i0 := i0.same sA
    replace i1 := i1.same sA
    replace i2 := i2.same sA
    replace i3 := i3.same sA
    replace i4 := i4.same sA
    replace i5 := i5.same sA
    replace i6 := i6.same sA
    replace i7 := i7.same sA
    replace i8 := i8.same sA
    replace i9 := i9.same sA
    replace i10 := i10.same sA
    replace i11 := i11.same sA
    replace e_l3 := sA _ _ e_l3
    replace e_y1 := sA _ _ e_y1
    replace M2 := M2.same sA
    generalize upd A21 y2 (.lst [.str "BadName", .str "OtherTies", .str "Apart", .str "NothingLeft"]) = A22 at sA e_y2 M2 e_p1 e_p2 e_p3 i0 i1 i2 i3 i4 i5 i6 i7 i8 i9 i10 i11 e_l3 e_y1  ⊢
    clear sA ny2
    refine ⟨y1, y2, _, _, rfl, rfl, e_y1, e_y2, by show 12 ≤ sizeLine; decide, fun y3 ny3 => ?_⟩
    simp only [List.cons_append, List.nil_append]
    have a_y3 := M2.away ny3
    have sA := sameN (o := .lst [.str "BadStars", .str "BadEnds", .str "BadDeed", .str "BadText", .str "BadSet", .str "BadNumber", .str "BadTree", .str "TooGreat", .str "BadName", .str "OtherTies", .str "Apart", .str "NothingLeft"]) ny3
    have e_y3 : (upd A22 y3 (.lst [.str "BadStars", .str "BadEnds", .str "BadDeed", .str "BadText", .str "BadSet", .str "BadNumber", .str "BadTree", .str "TooGreat", .str "BadName", .str "OtherTies", .str "Apart", .str "NothingLeft"])) y3 = some (.lst [.str "BadStars", .str "BadEnds", .str "BadDeed", .str "BadText", .str "BadSet", .str "BadNumber", .str "BadTree", .str "TooGreat", .str "BadName", .str "OtherTies", .str "Apart", .str "NothingLeft"]) := upd_same
    replace e_p1 := sA _ _ e_p1
    replace e_p2 := sA _ _ e_p2
    replace e_p3 := sA _ _ e_p3
    replace i0 := i0.same sA
    replace i1 := i1.same sA
    replace i2 := i2.same sA
    replace i3 := i3.same sA
    replace i4 := i4.same sA
    replace i5 := i5.same sA
    replace i6 := i6.same sA
    replace i7 := i7.same sA
    replace i8 := i8.same sA
    replace i9 := i9.same sA
    replace i10 := i10.same sA
    replace i11 := i11.same sA
    replace e_l3 := sA _ _ e_l3
    replace e_y1 := sA _ _ e_y1
    replace e_y2 := sA _ _ e_y2
    replace M2 := M2.same sA
    generalize upd A22 y3 (.lst [.str "BadStars", .str "BadEnds", .str "BadDeed", .str "BadText", .str "BadSet", .str "BadNumber", .str "BadTree", .str "TooGreat", .str "BadName", .str "OtherTies", .str "Apart", .str "NothingLeft"]) = A23 at sA e_y3 M2 e_p1 e_p2 e_p3 i0 i1 i2 i3 i4 i5 i6 i7 i8 i9 i10 i11 e_l3 e_y1 e_y2  ⊢
    clear sA ny3
    clear e_y1 e_y2
    have hX : ∀ (i : Nat), i < 12 → ∃ e D, [V.ref e0, .ref e1, .ref e2, .ref e3, .ref e4, .ref e5, .ref e6, .ref e7, .ref e8, .ref e9, .ref e10, .ref e11][i]? = some (.ref e) ∧ [c0, c1, c2, c3, c4, c5, c6, c7, c8, c9, c10, c11][i]? = some D ∧ ExOf A23 e D ∧ (i < 9 → IsE A23 e D (fld i) v) := by
      intro i hi
      match i, hi with
      | 0, _ => exact ⟨_, _, rfl, rfl, exOf_e i0, fun _ => i0⟩
      | 1, _ => exact ⟨_, _, rfl, rfl, exOf_e i1, fun _ => i1⟩
      | 2, _ => exact ⟨_, _, rfl, rfl, exOf_e i2, fun _ => i2⟩
      | 3, _ => exact ⟨_, _, rfl, rfl, exOf_e i3, fun _ => i3⟩
      | 4, _ => exact ⟨_, _, rfl, rfl, exOf_e i4, fun _ => i4⟩
      | 5, _ => exact ⟨_, _, rfl, rfl, exOf_e i5, fun _ => i5⟩
      | 6, _ => exact ⟨_, _, rfl, rfl, exOf_e i6, fun _ => i6⟩
      | 7, _ => exact ⟨_, _, rfl, rfl, exOf_e i7, fun _ => i7⟩
      | 8, _ => exact ⟨_, _, rfl, rfl, exOf_e i8, fun _ => i8⟩
      | 9, _ => exact ⟨_, _, rfl, rfl, i9, fun z => absurd z (by decide)⟩
      | 10, _ => exact ⟨_, _, rfl, rfl, i10, fun z => absurd z (by decide)⟩
      | 11, _ => exact ⟨_, _, rfl, rfl, i11, fun z => absurd z (by decide)⟩
    clear i0 i1 i2 i3 i4 i5 i6 i7 i8 i9 i10 i11
    -- for n in range(12)
    refine ⟨12, rfl, by decide, by decide, ?_⟩
    refine for_range (lo := 0) (n := 12) (fun i σ H' => ∃ z5 z6, σ = [some (.ref a), some (.ref m), some v, some (.ref l3), some (.ref y3), z5, z6, none, none, none] ∧ Same A23 H') ⟨none, none, rfl, Same.refl _⟩ (fun i σ H2 hi hp => ?_) (fun σ H2 hp => ?_)
    · obtain ⟨z5, z6, rfl, s2⟩ := hp
      obtain ⟨e, D, xe, hc, xo, xf⟩ := hX i hi
      have ei : ((0 : Int) + (i : Int)) = ((i : Nat) : Int) := by omega
      have te := T.ex hc
      have dl : decide ((0 : Int) + (i : Int) < 9) = decide (i < 9) := by
        rw [Bool.eq_iff_iff]; simp only [decide_eq_true_eq]; omega
      have d7 : decide (V.int ((0 : Int) + (i : Int)) = V.int 7) = decide (i = 7) := by
        rw [Bool.eq_iff_iff]; simp only [decide_eq_true_eq, V.int.injEq]; omega
      -- due
      refine ⟨_, rfl, _, _, rfl, rfl, decide (i < 9), congrArg V.bl dl, ?_⟩
      refine ite_mono (fun v' H3 => ∃ p, v' = .ref p ∧ Same H2 H3 ∧ H3 p = some (.tup (res i v))) (fun z Q k => ?_) (fun z Q k => ?_) (fun v' H3 h => ?_)
      · have z : i < 9 := of_decide_eq_true z
        refine ⟨_, rfl, _, rfl, y3, _, _, _, rfl, rfl, SqL.of (s2 _ _ e_y3), (by rw [ei]; exact atI_nat (wd_get hi)), ?_⟩
        refine ⟨_, rfl, by show 2 ≤ sizeLine; decide, fun p np => ?_⟩
        exact k _ _ ⟨p, rfl, sameN np, by rw [upd_same]; unfold res; rw [if_pos z]⟩
      · have z : ¬ i < 9 := fun y => z (decide_eq_true y)
        refine ⟨_, rfl, _, rfl, y3, _, _, _, rfl, rfl, SqL.of (s2 _ _ e_y3), (by rw [ei]; exact atI_nat (wd_get hi)), ?_⟩
        refine ⟨by show 1 ≤ sizeLine; decide, fun p np => ?_⟩
        exact k _ _ ⟨p, rfl, sameN np, by rw [upd_same]; unfold res; rw [if_neg z]⟩
      obtain ⟨p, rfl, s3, ep⟩ := h
      replace s3 := s2.trans s3
      clear s2
      have lx : atI [V.ref e0, .ref e1, .ref e2, .ref e3, .ref e4, .ref e5, .ref e6, .ref e7, .ref e8, .ref e9, .ref e10, .ref e11] ((0 : Int) + (i : Int)) = some (.ref e) := by rw [ei]; exact atI_nat xe
      -- repr(_law_class(some[n])) != repr(due)
      refine ⟨_, rfl, _, rfl, l3, _, _, _, rfl, rfl, SqL.of (s3 _ _ e_l3), lx, ?_⟩
      refine ⟨e, D, i, v, rfl, hi, hc, xo.same s3, fun z => (xf z).same s3, fun H4 p2 s4 ep2 => ?_⟩
      replace ep := s4 _ _ ep
      replace s4 := s3.trans s4
      have dq : ∀ H', Same A23 H' → De K H' v d := fun H' s => (hq H' (s _ _ e_p1) (s _ _ e_p2) (s _ _ e_p3)).1
      refine ⟨p2, resD i d, rfl, res_de (SqT.of ep2) (dq _ s4), res_shown hi hd, ?_⟩
      refine ⟨_, rfl, p, resD i d, rfl, res_de (SqT.of ep) (dq _ s4), res_shown hi hd, ?_⟩
      refine ⟨rfl, false, by simp, ?_⟩
      refine ite_ff ?_
      obtain ⟨dd, h1, h2⟩ := xo.same s4
      refine ⟨_, rfl, _, rfl, l3, _, _, _, rfl, rfl, SqL.of (s4 _ _ e_l3), lx, ?_⟩
      refine ⟨e, D, dd, _, _, _, rfl, te, h1, h2, .own cR, T.kR i D hc, ?_⟩
      refine ⟨_, rfl, rfl, rfl, false, ?_, ?_⟩
      · rw [d7]; simp
      refine ite_ff ?_
      refine ⟨_, rfl, _, rfl, l3, _, _, _, rfl, rfl, SqL.of (s4 _ _ e_l3), lx, ?_⟩
      refine ⟨e, D, dd, _, _, _, rfl, te, h1, h2, .ty "ValueError", T.kV i D hc, ?_⟩
      refine ⟨_, rfl, rfl, rfl, false, ?_, ?_⟩
      · rw [d7]; simp
      refine ite_ff ?_
      refine ⟨_, rfl, _, rfl, l3, _, _, _, rfl, rfl, SqL.of (s4 _ _ e_l3), lx, ?_⟩
      refine ⟨e, D, dd, _, _, _, rfl, te, h1, h2, .ty "OverflowError", T.kO i D hc, ?_⟩
      refine ⟨_, rfl, rfl, rfl, false, ?_, ?_⟩
      · rw [d7]; simp
      refine ite_ff ?_
      exact ⟨_, _, rfl, s4⟩
    obtain ⟨z5, z6, rfl, s2⟩ := hp

    replace e_p1 := s2 _ _ e_p1
    replace e_p2 := s2 _ _ e_p2
    replace e_p3 := s2 _ _ e_p3
    replace e_l3 := s2 _ _ e_l3
    replace e_y3 := s2 _ _ e_y3
    replace M2 := M2.same s2
    clear s2 hX
    -- told
    refine ⟨v, rfl, _, rfl, fun ea da x1 x2 x3 => ?_⟩
    obtain ⟨sA, da', j1, j2⟩ := made (C := c3) (f := "place") (v := v) x1 x2 x3
    replace e_p1 := sA _ _ e_p1
    replace e_p2 := sA _ _ e_p2
    replace e_p3 := sA _ _ e_p3
    replace e_l3 := sA _ _ e_l3
    replace e_y3 := sA _ _ e_y3
    replace M2 := M2.same sA
    generalize upd (upd H2 da (.xd [("place", v)])) ea (exV ea c3 (some da)) = A24 at sA j1 j2 M2 e_p1 e_p2 e_p3 e_l3 e_y3 ⊢
    refine ⟨ea, c3, da', _, v, rfl, T.r3.rd.x, T.r3.rd.n, j1, j2, lookE, ?_⟩
    clear sA x1 x2 x3 j1 j2 da' ea da
    refine ⟨v, rfl, _, rfl, fun ea da x1 x2 x3 => ?_⟩
    obtain ⟨sA, da', j1, j2⟩ := made (C := c6) (f := "value") (v := v) x1 x2 x3
    replace e_p1 := sA _ _ e_p1
    replace e_p2 := sA _ _ e_p2
    replace e_p3 := sA _ _ e_p3
    replace e_l3 := sA _ _ e_l3
    replace e_y3 := sA _ _ e_y3
    replace M2 := M2.same sA
    generalize upd (upd A24 da (.xd [("value", v)])) ea (exV ea c6 (some da)) = A25 at sA j1 j2 M2 e_p1 e_p2 e_p3 e_l3 e_y3 ⊢
    refine ⟨ea, c6, da', _, v, rfl, T.r6.rd.x, T.r6.rd.n, j1, j2, lookE, ?_⟩
    clear sA x1 x2 x3 j1 j2 da' ea da
    refine ⟨v, rfl, _, rfl, fun ea da x1 x2 x3 => ?_⟩
    obtain ⟨sA, da', j1, j2⟩ := made (C := c7) (f := "most") (v := v) x1 x2 x3
    replace e_p1 := sA _ _ e_p1
    replace e_p2 := sA _ _ e_p2
    replace e_p3 := sA _ _ e_p3
    replace e_l3 := sA _ _ e_l3
    replace e_y3 := sA _ _ e_y3
    replace M2 := M2.same sA
    generalize upd (upd A25 da (.xd [("most", v)])) ea (exV ea c7 (some da)) = A26 at sA j1 j2 M2 e_p1 e_p2 e_p3 e_l3 e_y3 ⊢
    refine ⟨ea, c7, da', _, v, rfl, T.r7.rd.x, T.r7.rd.n, j1, j2, lookE, ?_⟩
    clear sA x1 x2 x3 j1 j2 da' ea da
    refine ⟨by show 3 ≤ sizeLine; decide, fun t1 nt1 => ?_⟩
    have a_t1 := M2.away nt1
    have sA := sameN (o := .lst [v, v, v]) nt1
    have e_t1 : (upd A26 t1 (.lst [v, v, v])) t1 = some (.lst [v, v, v]) := upd_same
    replace e_p1 := sA _ _ e_p1
    replace e_p2 := sA _ _ e_p2
    replace e_p3 := sA _ _ e_p3
    replace e_l3 := sA _ _ e_l3
    replace e_y3 := sA _ _ e_y3
    replace M2 := M2.same sA
    generalize upd A26 t1 (.lst [v, v, v]) = A27 at sA e_t1 M2 e_p1 e_p2 e_p3 e_l3 e_y3  ⊢
    clear sA nt1
    have dq := fun (H' : Hp) (s : Same A27 H') => (hq H' (s _ _ e_p1) (s _ _ e_p2) (s _ _ e_p3)).1
    have d3 : ∀ (H' : Hp) (t : Addr), Same A27 H' → SqL K H' t [v, v, v] → De K H' (.ref t) (.list [d, d, d]) := fun H' t s h => .lst h (.cons (dq H' s) (.cons (dq H' s) (.cons (dq H' s) .nil)))
    have sh3 : shows (.list [d, d, d]) = true := List.all_eq_true.mp all_shown3 d hd
    refine ⟨_, rfl, t1, _, rfl, d3 _ t1 (Same.refl _) (SqL.of e_t1), sh3, ?_⟩
    refine ⟨_, rfl, by show 1 ≤ sizeLine; decide, fun t2 nt2 => ?_⟩
    have s5 := sameN (o := .lst [v]) nt2
    refine ⟨t2, 3, [v], rfl, rfl, upd_same, by decide, by decide, by show 3 ≤ sizeLine; decide, fun t3 nt3 => ?_⟩
    have s6 := s5.trans (sameN (o := .lst (List.replicate (3 : Int).toNat [v]).flatten) nt3)
    refine ⟨t3, _, rfl, d3 _ t3 s6 (SqL.of upd_same), sh3, ?_⟩
    refine ⟨rfl, false, by simp, ite_ff ?_⟩
    clear d3 dq nt2 nt3 s5 sh3
    replace e_p1 := s6 _ _ e_p1
    replace e_p2 := s6 _ _ e_p2
    replace e_p3 := s6 _ _ e_p3
    replace e_l3 := s6 _ _ e_l3
    replace e_y3 := s6 _ _ e_y3
    replace e_t1 := s6 _ _ e_t1
    replace M2 := M2.same s6
    generalize upd (upd A27 t2 (.lst [v])) t3 (.lst (List.replicate (3 : Int).toNat [v]).flatten) = A28 at s6 M2 e_p1 e_p2 e_p3 e_l3 e_y3 e_t1 ⊢
    clear s6
    clear e_t1 e_l3 e_y3
    -- own = Web([(0, 1), (0, 1)])
    refine ⟨by show 2 ≤ sizeLine; decide, fun a1 na1 => ?_⟩
    have a_a1 := M2.away na1
    have sA := sameN (o := .tup [V.int 0, V.int 1]) na1
    have e_a1 : (upd A28 a1 (.tup [V.int 0, V.int 1])) a1 = some (.tup [V.int 0, V.int 1]) := upd_same
    replace e_p1 := sA _ _ e_p1
    replace e_p2 := sA _ _ e_p2
    replace e_p3 := sA _ _ e_p3
    replace M2 := M2.same sA
    generalize upd A28 a1 (.tup [V.int 0, V.int 1]) = A29 at sA e_a1 M2 e_p1 e_p2 e_p3  ⊢
    clear sA na1
    refine ⟨by show 2 ≤ sizeLine; decide, fun a2 na2 => ?_⟩
    have a_a2 := M2.away na2
    have sA := sameN (o := .tup [V.int 0, V.int 1]) na2
    have e_a2 : (upd A29 a2 (.tup [V.int 0, V.int 1])) a2 = some (.tup [V.int 0, V.int 1]) := upd_same
    replace e_p1 := sA _ _ e_p1
    replace e_p2 := sA _ _ e_p2
    replace e_p3 := sA _ _ e_p3
    replace e_a1 := sA _ _ e_a1
    replace M2 := M2.same sA
    generalize upd A29 a2 (.tup [V.int 0, V.int 1]) = A30 at sA e_a2 M2 e_p1 e_p2 e_p3 e_a1  ⊢
    clear sA na2
    refine ⟨by show 2 ≤ sizeLine; decide, fun a3 na3 => ?_⟩
    have a_a3 := M2.away na3
    have sA := sameN (o := .lst [V.ref a1, V.ref a2]) na3
    have e_a3 : (upd A30 a3 (.lst [V.ref a1, V.ref a2])) a3 = some (.lst [V.ref a1, V.ref a2]) := upd_same
    replace e_p1 := sA _ _ e_p1
    replace e_p2 := sA _ _ e_p2
    replace e_p3 := sA _ _ e_p3
    replace e_a1 := sA _ _ e_a1
    replace e_a2 := sA _ _ e_a2
    replace M2 := M2.same sA
    generalize upd A30 a3 (.lst [V.ref a1, V.ref a2]) = A31 at sA e_a3 M2 e_p1 e_p2 e_p3 e_a1 e_a2  ⊢
    clear sA na3
    obtain ⟨hG, hL⟩ := good_of goodW
    refine fun x dx nx ndx nxd => ?_
    have sA : Same A31 (upd (upd A31 dx (.own x)) x (.ins C dx [])) := fun b o e => by
      rw [upd_ne (ne_of_none e nx), upd_ne (ne_of_none e ndx)]
      exact e
    have sX : Stars K A31 [V.ref a1, V.ref a2] [[0, 1], [0, 1]] := .cons (SqT.of e_a1) (.cons (SqT.of e_a2) stars_nil)
    refine ⟨x, a3, dx, _, [[0, 1], [0, 1]], 2, rfl, upd_same, .inl (SqL.of (sA _ _ e_a3)), sX.same sA, hG, hL, fun C1 bx W_x => ⟨rfl, ?_⟩⟩
    replace sA := same_butX sA bx nx
    clear bx nx ndx nxd sX
    replace e_p1 := sA _ _ e_p1
    replace e_p2 := sA _ _ e_p2
    replace e_p3 := sA _ _ e_p3
    replace e_a1 := sA _ _ e_a1
    replace e_a2 := sA _ _ e_a2
    replace e_a3 := sA _ _ e_a3
    replace M2 := M2.same sA
    clear sA
    clear e_a1 e_a2 e_a3
    -- odd
    refine ⟨by show 2 ≤ sizeLine; decide, fun b1 nb1 => ?_⟩
    have a_b1 := M2.away nb1
    have sA := sameN (o := .tup [V.int 0, V.int 1]) nb1
    have e_b1 : (upd C1 b1 (.tup [V.int 0, V.int 1])) b1 = some (.tup [V.int 0, V.int 1]) := upd_same
    replace e_p1 := sA _ _ e_p1
    replace e_p2 := sA _ _ e_p2
    replace e_p3 := sA _ _ e_p3
    replace W_x := W_x.same sA
    replace M2 := M2.same sA
    generalize upd C1 b1 (.tup [V.int 0, V.int 1]) = A32 at sA e_b1 M2 e_p1 e_p2 e_p3 W_x  ⊢
    clear sA nb1
    refine ⟨by show 2 ≤ sizeLine; decide, fun b2 nb2 => ?_⟩
    have a_b2 := M2.away nb2
    have sA := sameN (o := .tup [V.int 0, V.int 1]) nb2
    have e_b2 : (upd A32 b2 (.tup [V.int 0, V.int 1])) b2 = some (.tup [V.int 0, V.int 1]) := upd_same
    replace e_p1 := sA _ _ e_p1
    replace e_p2 := sA _ _ e_p2
    replace e_p3 := sA _ _ e_p3
    replace W_x := W_x.same sA
    replace e_b1 := sA _ _ e_b1
    replace M2 := M2.same sA
    generalize upd A32 b2 (.tup [V.int 0, V.int 1]) = A33 at sA e_b2 M2 e_p1 e_p2 e_p3 W_x e_b1  ⊢
    clear sA nb2
    refine ⟨by show 2 ≤ sizeLine; decide, fun b3 nb3 => ?_⟩
    have a_b3 := M2.away nb3
    have sA := sameN (o := .tup [V.ref b1, V.ref b2]) nb3
    have e_b3 : (upd A33 b3 (.tup [V.ref b1, V.ref b2])) b3 = some (.tup [V.ref b1, V.ref b2]) := upd_same
    replace e_p1 := sA _ _ e_p1
    replace e_p2 := sA _ _ e_p2
    replace e_p3 := sA _ _ e_p3
    replace W_x := W_x.same sA
    replace e_b1 := sA _ _ e_b1
    replace e_b2 := sA _ _ e_b2
    replace M2 := M2.same sA
    generalize upd A33 b3 (.tup [V.ref b1, V.ref b2]) = A34 at sA e_b3 M2 e_p1 e_p2 e_p3 W_x e_b1 e_b2  ⊢
    clear sA nb3
    refine ⟨by show 2 ≤ sizeLine; decide, fun b4 nb4 => ?_⟩
    have a_b4 := M2.away nb4
    have sA := sameN (o := .tup [V.int 0, V.int 1]) nb4
    have e_b4 : (upd A34 b4 (.tup [V.int 0, V.int 1])) b4 = some (.tup [V.int 0, V.int 1]) := upd_same
    replace e_p1 := sA _ _ e_p1
    replace e_p2 := sA _ _ e_p2
    replace e_p3 := sA _ _ e_p3
    replace W_x := W_x.same sA
    replace e_b1 := sA _ _ e_b1
    replace e_b2 := sA _ _ e_b2
    replace e_b3 := sA _ _ e_b3
    replace M2 := M2.same sA
    generalize upd A34 b4 (.tup [V.int 0, V.int 1]) = A35 at sA e_b4 M2 e_p1 e_p2 e_p3 W_x e_b1 e_b2 e_b3  ⊢
    clear sA nb4
    refine ⟨by show 2 ≤ sizeLine; decide, fun b5 nb5 => ?_⟩
    have a_b5 := M2.away nb5
    have sA := sameN (o := .tup [V.int 0, V.int 1]) nb5
    have e_b5 : (upd A35 b5 (.tup [V.int 0, V.int 1])) b5 = some (.tup [V.int 0, V.int 1]) := upd_same
    replace e_p1 := sA _ _ e_p1
    replace e_p2 := sA _ _ e_p2
    replace e_p3 := sA _ _ e_p3
    replace W_x := W_x.same sA
    replace e_b1 := sA _ _ e_b1
    replace e_b2 := sA _ _ e_b2
    replace e_b3 := sA _ _ e_b3
    replace e_b4 := sA _ _ e_b4
    replace M2 := M2.same sA
    generalize upd A35 b5 (.tup [V.int 0, V.int 1]) = A36 at sA e_b5 M2 e_p1 e_p2 e_p3 W_x e_b1 e_b2 e_b3 e_b4  ⊢
    clear sA nb5
    refine ⟨by show 2 ≤ sizeLine; decide, fun b6 nb6 => ?_⟩
    have a_b6 := M2.away nb6
    have sA := sameN (o := .lst [V.ref b4, V.ref b5]) nb6
    have e_b6 : (upd A36 b6 (.lst [V.ref b4, V.ref b5])) b6 = some (.lst [V.ref b4, V.ref b5]) := upd_same
    replace e_p1 := sA _ _ e_p1
    replace e_p2 := sA _ _ e_p2
    replace e_p3 := sA _ _ e_p3
    replace W_x := W_x.same sA
    replace e_b1 := sA _ _ e_b1
    replace e_b2 := sA _ _ e_b2
    replace e_b3 := sA _ _ e_b3
    replace e_b4 := sA _ _ e_b4
    replace e_b5 := sA _ _ e_b5
    replace M2 := M2.same sA
    generalize upd A36 b6 (.lst [V.ref b4, V.ref b5]) = A37 at sA e_b6 M2 e_p1 e_p2 e_p3 W_x e_b1 e_b2 e_b3 e_b4 e_b5  ⊢
    clear sA nb6
    refine fun b7 nb7 => ?_
    have a_b7 := M2.away nb7
    have sA := sameN (o := .dK []) nb7
    have e_b7 : (upd A37 b7 (.dK [])) b7 = some (.dK []) := upd_same
    replace e_p1 := sA _ _ e_p1
    replace e_p2 := sA _ _ e_p2
    replace e_p3 := sA _ _ e_p3
    replace W_x := W_x.same sA
    replace e_b1 := sA _ _ e_b1
    replace e_b2 := sA _ _ e_b2
    replace e_b3 := sA _ _ e_b3
    replace e_b4 := sA _ _ e_b4
    replace e_b5 := sA _ _ e_b5
    replace e_b6 := sA _ _ e_b6
    replace M2 := M2.same sA
    generalize upd A37 b7 (.dK []) = A38 at sA e_b7 M2 e_p1 e_p2 e_p3 W_x e_b1 e_b2 e_b3 e_b4 e_b5 e_b6  ⊢
    clear sA nb7
    refine ⟨_, rfl, ?_⟩
    refine ⟨by show 7 ≤ sizeLine; decide, fun b8 nb8 => ?_⟩
    have a_b8 := M2.away nb8
    have sA := sameN (o := .lst [V.non, .ref b3, .ref b6, .int 5, .str "web", .ref b7, v]) nb8
    have e_b8 : (upd A38 b8 (.lst [V.non, .ref b3, .ref b6, .int 5, .str "web", .ref b7, v])) b8 = some (.lst [V.non, .ref b3, .ref b6, .int 5, .str "web", .ref b7, v]) := upd_same
    replace e_p1 := sA _ _ e_p1
    replace e_p2 := sA _ _ e_p2
    replace e_p3 := sA _ _ e_p3
    replace W_x := W_x.same sA
    replace e_b1 := sA _ _ e_b1
    replace e_b2 := sA _ _ e_b2
    replace e_b3 := sA _ _ e_b3
    replace e_b4 := sA _ _ e_b4
    replace e_b5 := sA _ _ e_b5
    replace e_b6 := sA _ _ e_b6
    replace e_b7 := sA _ _ e_b7
    replace M2 := M2.same sA
    generalize upd A38 b8 (.lst [V.non, .ref b3, .ref b6, .int 5, .str "web", .ref b7, v]) = A39 at sA e_b8 M2 e_p1 e_p2 e_p3 W_x e_b1 e_b2 e_b3 e_b4 e_b5 e_b6 e_b7  ⊢
    clear sA nb8
    refine ⟨_, rfl, m, g, 0 + 1, 7, rfl, M2, by decide, by decide, by decide, fun r3 B1 r30 r31 M3 B6 => ?_⟩
    replace e_p1 := B6 _ _ e_p1 a_p1.1 a_p1.2
    replace e_p2 := B6 _ _ e_p2 a_p2.1 a_p2.2
    replace e_p3 := B6 _ _ e_p3 a_p3.1 a_p3.2
    replace W_x := but_web M2 B6 W_x
    replace e_b1 := B6 _ _ e_b1 a_b1.1 a_b1.2
    replace e_b2 := B6 _ _ e_b2 a_b2.1 a_b2.2
    replace e_b3 := B6 _ _ e_b3 a_b3.1 a_b3.2
    replace e_b4 := B6 _ _ e_b4 a_b4.1 a_b4.2
    replace e_b5 := B6 _ _ e_b5 a_b5.1 a_b5.2
    replace e_b6 := B6 _ _ e_b6 a_b6.1 a_b6.2
    replace e_b7 := B6 _ _ e_b7 a_b7.1 a_b7.2
    replace e_b8 := B6 _ _ e_b8 a_b8.1 a_b8.2
    clear M2 B6
    obtain ⟨_, Tv, bv⟩ := hq _ e_p1 e_p2 e_p3
    have pick : ∃ u U, atI [V.non, .ref b3, .ref b6, .int 5, .str "web", .ref b7, v] r3 = some u ∧ Blt K B1 u U := by
      obtain ⟨n, rfl⟩ := Int.eq_ofNat_of_zero_le r30
      have hn : n < 7 := by omega
      match n, hn with
      | 0, _ => exact ⟨_, _, rfl, .non⟩
      | 1, _ => exact ⟨_, _, rfl, .tup (SqT.of e_b3)⟩
      | 2, _ => exact ⟨_, _, rfl, .lst (SqL.of e_b6)⟩
      | 3, _ => exact ⟨_, _, rfl, .int 5⟩
      | 4, _ => exact ⟨_, _, rfl, .str "web"⟩
      | 5, _ => exact ⟨_, _, rfl, .dic e_b7⟩
      | 6, _ => exact ⟨_, _, rfl, bv⟩
    obtain ⟨u, U, hv, hb⟩ := pick
    refine ⟨b8, _, r3, u, rfl, rfl, SqL.of e_b8, hv, ?_⟩
    clear hv bv r30 r31
    clear e_p1 e_p2 e_p3 e_b1 e_b2 e_b3 e_b4 e_b5 e_b6 e_b7 e_b8
    obtain ⟨ty, hU⟩ := blt_ty hb
    have W9 := W_x
    obtain ⟨dx', p', q', xs', h1', _⟩ := W9
    -- own == odd
    refine ⟨_, rfl, _, rfl, x, dx', _, _, rfl, h1', ty, TE.nf _ hU, x, u, _, 2, rfl, W_x, .inl ⟨_, ty, TE.ki _ hU, ?_⟩⟩
    -- odd == own
    refine ⟨_, rfl, _, rfl, x, dx', _, _, rfl, h1', hb, x, u, _, 2, rfl, W_x, .inl ⟨_, ty, TE.ki _ hU, ?_⟩⟩
    clear hb ty hU h1'
    -- own != Web(((0, 1), (0, 1)))
    refine ⟨_, rfl, ?_⟩
    refine ⟨by show 2 ≤ sizeLine; decide, fun f1 nf1 => ?_⟩
    have a_f1 := M3.away nf1
    have sA := sameN (o := .tup [V.int 0, V.int 1]) nf1
    have e_f1 : (upd B1 f1 (.tup [V.int 0, V.int 1])) f1 = some (.tup [V.int 0, V.int 1]) := upd_same
    replace W_x := W_x.same sA
    replace M3 := M3.same sA
    generalize upd B1 f1 (.tup [V.int 0, V.int 1]) = A40 at sA e_f1 M3 W_x  ⊢
    clear sA nf1
    refine ⟨by show 2 ≤ sizeLine; decide, fun f2 nf2 => ?_⟩
    have a_f2 := M3.away nf2
    have sA := sameN (o := .tup [V.int 0, V.int 1]) nf2
    have e_f2 : (upd A40 f2 (.tup [V.int 0, V.int 1])) f2 = some (.tup [V.int 0, V.int 1]) := upd_same
    replace W_x := W_x.same sA
    replace e_f1 := sA _ _ e_f1
    replace M3 := M3.same sA
    generalize upd A40 f2 (.tup [V.int 0, V.int 1]) = A41 at sA e_f2 M3 W_x e_f1  ⊢
    clear sA nf2
    refine ⟨by show 2 ≤ sizeLine; decide, fun f3 nf3 => ?_⟩
    have a_f3 := M3.away nf3
    have sA := sameN (o := .tup [V.ref f1, V.ref f2]) nf3
    have e_f3 : (upd A41 f3 (.tup [V.ref f1, V.ref f2])) f3 = some (.tup [V.ref f1, V.ref f2]) := upd_same
    replace W_x := W_x.same sA
    replace e_f1 := sA _ _ e_f1
    replace e_f2 := sA _ _ e_f2
    replace M3 := M3.same sA
    generalize upd A41 f3 (.tup [V.ref f1, V.ref f2]) = A42 at sA e_f3 M3 W_x e_f1 e_f2  ⊢
    clear sA nf3
    refine fun y dy nx ndx nxd => ?_
    have sA : Same A42 (upd (upd A42 dy (.own y)) y (.ins C dy [])) := fun b o e => by
      rw [upd_ne (ne_of_none e nx), upd_ne (ne_of_none e ndx)]
      exact e
    have sX : Stars K A42 [V.ref f1, V.ref f2] [[0, 1], [0, 1]] := .cons (SqT.of e_f1) (.cons (SqT.of e_f2) stars_nil)
    refine ⟨y, f3, dy, _, [[0, 1], [0, 1]], 2, rfl, upd_same, .inr (SqT.of (sA _ _ e_f3)), sX.same sA, hG, hL, fun C2 bx W_y => ⟨rfl, ?_⟩⟩
    replace sA := same_butX sA bx nx
    clear bx nx ndx nxd sX
    replace W_x := W_x.same sA
    replace e_f1 := sA _ _ e_f1
    replace e_f2 := sA _ _ e_f2
    replace e_f3 := sA _ _ e_f3
    replace M3 := M3.same sA
    clear sA
    have W9 := W_x
    obtain ⟨dx'', p'', q'', xs'', h1'', _⟩ := W9
    have W8 := W_y
    obtain ⟨dy', p3', q3', xs3', h3', _⟩ := W8
    refine ⟨x, dx'', _, _, rfl, h1'', .base (.ins h3' Tw.cl TI.ha TI.hn TI.htk TI.hm), TE.nfo, x, .ref y, _, 2, rfl, W_x, .inr ⟨y, _, 2, rfl, W_y, true, by rw [eqv_dat], ?_⟩⟩
    have bf : ∀ (H' : Hp) (t : Addr), SqL K H' t [V.bl false, V.bl false, V.bl false] → De K H' (.ref t) (.list [.bool false, .bool false, .bool false]) := fun H' t h => .lst h (.cons (.bl _) (.cons (.bl _) (.cons (.bl _) .nil)))
    refine ⟨by show 3 ≤ sizeLine; decide, fun y1 ny1 => ?_⟩
    have ey1 : (upd C2 y1 (.lst [V.bl false, .bl false, .bl (!true)])) y1 = some (.lst [V.bl false, .bl false, .bl false]) := upd_same
    refine ⟨_, rfl, y1, _, rfl, bf _ y1 (SqL.of ey1), bls_shown, ?_⟩
    refine ⟨by show 3 ≤ sizeLine; decide, fun y2 ny2 => ?_⟩
    refine ⟨y2, _, rfl, bf _ y2 (SqL.of upd_same), bls_shown, ?_⟩
    refine ⟨rfl, ?_⟩
    simp only [decide_true]
    exact q _
end
end Sg

namespace Sx
open PySem PySem.W PySem.Calls PyProof.Rows Builtin Builtin.ObjectAttr
section
variable {prog : Program} {w : World} {A : Around} {R : Result → Shared → Prop} {h : Heap} {g : Array GenState} {d : Drawn} {t : Nat} {os : OsState} {K : Frag} {C : Addr} {B newId initId : String} {bmB : List Value}
/-- C(p=v): a new exception object that keeps v -/
theorem make_kw {fI cc cda : Addr} {qual : Str} {scope : Scope} {params : Arguments} {mg mb : Str → Option Value} {oc kV doc pm ct dV : Value} {an od : Option Addr} {osl : Array (Option Value)} {name f p : Str} {p0 p1 p2 p3 p4 p5 p6 p7 p8 p9 : Pos} {msg : Str} {k4 : Nat}
    {v : Value} (T : SupC K prog C fI cc cda B newId initId bmB qual "self" scope params) (np : ¬ ("self" : Str) = p) (hpl : scope.names.lookup p = some .local) (hf : takerIn K C f = some none)
    (lk : K.lookup fI = some ⟨oc, od, .func (ksFn name qual params [.Expr (.Call (.Attribute (.Call (.Name "super" p0) [] [] p1) "__init__" p2) [.Constant (.str msg) k4 p3] [] p4) p5, .Assign [.Attribute (.Name "self" p6) f p7] (.Name p p8) p9] scope dV kV doc pm an (.ref cda) ct cc), osl⟩)
    (X : K.In h) (hl : h.NoLimit) (hg : h.Ns mainGlobals mg) (hms : mg "super" = none) (hb : h.Ns builtinsNs mb) (hbs : mb "super" = some (.type "super")) (hr : A.depth + 1 < recursionLimit)
    (hbind : ∀ (s : Shared) (x y : Value), BindsTo s (ksFn name qual params [.Expr (.Call (.Attribute (.Call (.Name "super" p0) [] [] p1) "__init__" p2) [.Constant (.str msg) k4 p3] [] p4) p5, .Assign [.Attribute (.Name "self" p6) f p7] (.Name p p8) p9] scope dV kV doc pm an (.ref cda) ct cc) ⟨[x], [(p, y)]⟩ [("self", x), (p, y)])
    (hev : ∀ L, ∃ pl : Sem Bool, PySem.eval (.Call (.Attribute (.Call (.Name "super" p0) [] [] p1) "__init__" p2) [.Constant (.str msg) k4 p3] [] p4) (ksEnv qual scope L fI (.ref cda) cc) = (do
      let ov ← attributeBase (.Call (.Name "super" p0) [] [] p1) "__init__" (ksEnv qual scope L fI (.ref cda) cc) (PySem.eval (.Call (.Name "super" p0) [] [] p1) (ksEnv qual scope L fI (.ref cda) cc))
      standAt p2.atName
      let (f, first) ← holding [ov] (getMethod ov "__init__" pl)
      callWith p4 f first (backTo p4 (starEach [.Constant (.str msg) k4 p3] (ksEnv qual scope L fI (.ref cda) cc))) []))
    (hdp : (p == ("__debug__" : Str)) = false) (hcp : (p == ("__classdict__" : Str)) = false)
    (hq : ∀ h' tk e dx t1, (∀ b o, h.get? b = some o → h'.get? b = some o) → h.objs.size ≤ e → h.get? dx = none → dx ≠ e → h'.get? e = some (excObj C t1 (some dx) .none) → h'.Ns1 dx (fun y => if y = f then some v else none) → R (.ok (.ret (.ref e))) ⟨h', g, d, tk, os⟩) :
    codeAny (model prog w) A (.call (.ref C) ⟨[], [(p, v)]⟩) R ⟨h, g, d, t, os⟩ := by
  obtain ⟨nm, N', qn, bs, bm, hdct, sn, sub, ab, col, dd, k0, k1, k2, k3, k5, hC, hT⟩ := excInit_of X T.q
  have kk : ∀ b o, h.get? b = some o → ((h.push (kdv_tup [])).push (HandSPX.excO C h.objs.size)).get? b = some o := fun b o z => Heap.get?_push_of_some _ (Heap.get?_push_of_some _ z)
  have hget : ((h.push (kdv_tup [])).push (HandSPX.excO C h.objs.size)).get? (h.objs.size + 1) = some (HandSPX.excO C h.objs.size) := by heap_get
  have n1 : h.get? (h.objs.size + 1) = none := Heap.get?_none_of_le (Nat.le_succ _)
  obtain ⟨oF, hoF, hcF⟩ : ∃ o, h.get? fI = some o ∧ o.cls = .type "function" := by
    obtain ⟨o, ho, hc⟩ := Option.map_eq_some_iff.mp T.tI
    exact ⟨o, X _ _ ho, hc⟩
  refine kw_call T.FB hT hC (looks_findIn X T.iC) (fun self => exc_bind hoF hcF self) ?_
  refine init_field (e := h.objs.size + 1) T np hpl hf lk X kk n1 (hl.keeps kk) (hg.keeps kk) hms (hb.keeps kk) hbs hget (by rw [L2.make_depth]; exact hr) (hbind _ _ _) hev hdp hcp fun h' tk dx t1 k' n' d' e' z' => ?_
  refine ⟨rfl, hq h' tk _ dx t1 (fun b o z => k' b o (Nat.ne_of_lt (Nat.lt_succ_of_lt (Heap.lt_size z))) (kk b o z)) (Nat.le_succ _) ?_ d' e' z'⟩
  cases z : h.get? dx with
  | none => rfl
  | some o =>
    rw [kk _ _ z] at n'
    cases n'
end
end Sx
namespace Sg
open PySem PySem.W PyProof.Rows L2 Gx Sx
section
variable {P : Program} {K : Frag} {mg : Str → Option Value} {h : Heap} {B newId initId : String} {bmB : List Value}
/-- a class with one field, from what the written part says -/
theorem row_of {x f qual file : Str} {C fI cc cda : Addr} {scope : Scope} {params : Arguments} {oc kV doc pm ct dV cl ccl : Value} {an od cld cdd : Option Addr} {osl csl ccs : Array (Option Value)} {vs : Array Value} {tf : Tok} {cd : ClassData} {p0 p1 p2 p3 p4 p5 p6 p7 p8 p9 : Pos} {msg : Str} {k4 : Nat}
    (X : K.In h) (G : h.Ns mainGlobals mg) (FB : ExcBaseFacts B newId initId bmB) (KF : KxsFacts B initId) (SF : StoreFacts B bmB "object.__setattr__" "object")
    (aC : nsIn K mainGlobals x = some (some (.ref C))) (kC : keepIn K (.ref C) = true) (iC : findIn K (.ref C) "__init__" = some (some (.ref fI)))
    (lk : K.lookup fI = some ⟨oc, od, .func (ksFn "__init__" qual params [.Expr (.Call (.Attribute (.Call (.Name "super" p0) [] [] p1) "__init__" p2) [.Constant (.str msg) k4 p3] [] p4) p5, .Assign [.Attribute (.Name "self" p6) f p7] (.Name f p8) p9] scope dV kV doc pm an (.ref cda) ct cc), osl⟩)
    (tI : typeIn K (.ref fI) = some (.type "function")) (cell : K.lookup cc = some ⟨cl, cld, .cell (some (.ref C)), csl⟩) (code : K.lookup cda = some ⟨ccl, cdd, .fields vs, ccs⟩) (hvs : vs[2]? = some (.str file tf)) (hfile : ((P.main.file : Str) == file) = true)
    (cdI : codeIn K (.ref cda) qual = true) (cls : clsIn K C = some cd) (self : mroIn K C (.ref C) = some true) (sup : ks_superIn K C C "__init__" = some (some (.builtin initId))) (sB : subIn K (.ref C) (.type B) = some true)
    (q : excInitIn K C bmB newId = true) (ov : excOver K C bmB = true) (hh : hasDictIn K C = true) (sa : findIn K (.ref C) "__setattr__" = some (some (.builtin "object.__setattr__"))) (noOp : nsIn K cStatics "thirdparty.any" = some none) (zS : nsIn K mainGlobals "super" = some none) (hf : takerIn K C f = some none)
    (fN : findIn K (.ref C) f = some none)
    (hg : findIn K (.ref C) "__getattribute__" = some (some (.builtin "BaseException.__getattribute__"))) (hk : findIn K (.ref C) "__getattr__" = some none) (hs : subIn K (.ref C) (.type "BaseException") = some true) (ha : findIn K (.ref C) "__class__" = some (some (.builtin "object.__class__")))
    (hn : specialIn K (.builtin "object.__class__") "__get__" = some (some (.builtin "getset_descriptor.__get__"))) (ht : takesIn K (.builtin "object.__class__") = some true) (hm : mroIn K C (.type "object") = some true)
    (top : (P.main.scope.names.lookup ("super" : Str)).isSome = false) (kind : scope.kind = .function) (co : scope.isCoroutine = false) (gen : scope.isGenerator = false) (nS : scope.names.lookup ("super" : Str) = some .globalImplicit) (nC : scope.names.lookup ("__class__" : Str) = some .free) (nA : scope.names.lookup ("self" : Str) = some .local)
    (noCell : ∀ x ∈ scope.names, x.2 ≠ .cell) (head : ((params.posonlyargs ++ params.args).head?.map (·.arg)) = some "self") (np : ¬ ("self" : Str) = f) (hpl : scope.names.lookup f = some .local)
    (hb1 : ∀ (s : Shared) (x y : Value), BindsTo s (ksFn "__init__" qual params [.Expr (.Call (.Attribute (.Call (.Name "super" p0) [] [] p1) "__init__" p2) [.Constant (.str msg) k4 p3] [] p4) p5, .Assign [.Attribute (.Name "self" p6) f p7] (.Name f p8) p9] scope dV kV doc pm an (.ref cda) ct cc) ⟨[x, y], []⟩ [("self", x), (f, y)])
    (hb2 : ∀ (s : Shared) (x y : Value), BindsTo s (ksFn "__init__" qual params [.Expr (.Call (.Attribute (.Call (.Name "super" p0) [] [] p1) "__init__" p2) [.Constant (.str msg) k4 p3] [] p4) p5, .Assign [.Attribute (.Name "self" p6) f p7] (.Name f p8) p9] scope dV kV doc pm an (.ref cda) ct cc) ⟨[x], [(f, y)]⟩ [("self", x), (f, y)])
    (hev : ∀ L, ∃ pl : Sem Bool, PySem.eval (.Call (.Attribute (.Call (.Name "super" p0) [] [] p1) "__init__" p2) [.Constant (.str msg) k4 p3] [] p4) (ksEnv qual scope L fI (.ref cda) cc) = (do
      let ov ← attributeBase (.Call (.Name "super" p0) [] [] p1) "__init__" (ksEnv qual scope L fI (.ref cda) cc) (PySem.eval (.Call (.Name "super" p0) [] [] p1) (ksEnv qual scope L fI (.ref cda) cc))
      standAt p2.atName
      let (f, first) ← holding [ov] (getMethod ov "__init__" pl)
      callWith p4 f first (backTo p4 (starEach [.Constant (.str msg) k4 p3] (ksEnv qual scope L fI (.ref cda) cc))) []))
    (hdp : (f == ("__debug__" : Str)) = false) (hcp : (f == ("__classdict__" : Str)) = false) : Row P K mg x C f := by
  have T : SupC K P C fI cc cda B newId initId bmB qual "self" scope params := ⟨FB, KF, SF, q, ov, hh, sa, iC, tI, ⟨_, _, _, cell⟩, ⟨_, _, _, _, _, _, code, hvs, hfile⟩, cdI, ⟨_, cls⟩, self, sup, sB, noOp, top, kind, co, gen, nS, nC, nA, noCell, head⟩
  have hms := mg_none_of X G zS
  exact ⟨mg_of X G aC, kC, fun w A h g d t os v mb R hr X hl hg hb hbs hq => make_field T np hpl hf lk X hl hg hms hb hbs hr hb1 hev hdp hcp hq,
    fun w A h g d t os v mb R hr X hl hg hb hbs hq => make_kw T np hpl hf lk X hl hg hms hb hbs hr hb2 hev hdp hcp hq, ⟨⟨hg, hk, hs, hh⟩, fN⟩, ⟨hg, hk, hs, hh, ha, hn, ht, hm⟩⟩
/-- a class without a field -/
theorem rowN_of {x qual file : Str} {C fI cc cda : Addr} {scope : Scope} {params : Arguments} {oc kV doc pm ct dV cl ccl : Value} {an od cld cdd : Option Addr} {osl csl ccs : Array (Option Value)} {vs : Array Value} {tf : Tok} {cd : ClassData} {p0 p1 p2 p3 p4 p5 : Pos} {msg : Str} {k4 : Nat}
    (X : K.In h) (G : h.Ns mainGlobals mg) (FB : ExcBaseFacts B newId initId bmB) (KF : KxsFacts B initId) (SF : StoreFacts B bmB "object.__setattr__" "object")
    (aC : nsIn K mainGlobals x = some (some (.ref C))) (kC : keepIn K (.ref C) = true) (iC : findIn K (.ref C) "__init__" = some (some (.ref fI)))
    (lk : K.lookup fI = some ⟨oc, od, .func (ksFn "__init__" qual params [.Expr (.Call (.Attribute (.Call (.Name "super" p0) [] [] p1) "__init__" p2) [.Constant (.str msg) k4 p3] [] p4) p5] scope dV kV doc pm an (.ref cda) ct cc), osl⟩)
    (tI : typeIn K (.ref fI) = some (.type "function")) (cell : K.lookup cc = some ⟨cl, cld, .cell (some (.ref C)), csl⟩) (code : K.lookup cda = some ⟨ccl, cdd, .fields vs, ccs⟩) (hvs : vs[2]? = some (.str file tf)) (hfile : ((P.main.file : Str) == file) = true)
    (cdI : codeIn K (.ref cda) qual = true) (cls : clsIn K C = some cd) (self : mroIn K C (.ref C) = some true) (sup : ks_superIn K C C "__init__" = some (some (.builtin initId))) (sB : subIn K (.ref C) (.type B) = some true)
    (q : excInitIn K C bmB newId = true) (ov : excOver K C bmB = true) (hh : hasDictIn K C = true) (sa : findIn K (.ref C) "__setattr__" = some (some (.builtin "object.__setattr__"))) (noOp : nsIn K cStatics "thirdparty.any" = some none) (zS : nsIn K mainGlobals "super" = some none)
    (hg : findIn K (.ref C) "__getattribute__" = some (some (.builtin "BaseException.__getattribute__"))) (hk : findIn K (.ref C) "__getattr__" = some none) (hs : subIn K (.ref C) (.type "BaseException") = some true) (ha : findIn K (.ref C) "__class__" = some (some (.builtin "object.__class__")))
    (hn : specialIn K (.builtin "object.__class__") "__get__" = some (some (.builtin "getset_descriptor.__get__"))) (ht : takesIn K (.builtin "object.__class__") = some true) (hm : mroIn K C (.type "object") = some true)
    (top : (P.main.scope.names.lookup ("super" : Str)).isSome = false) (kind : scope.kind = .function) (co : scope.isCoroutine = false) (gen : scope.isGenerator = false) (nS : scope.names.lookup ("super" : Str) = some .globalImplicit) (nC : scope.names.lookup ("__class__" : Str) = some .free) (nA : scope.names.lookup ("self" : Str) = some .local)
    (noCell : ∀ x ∈ scope.names, x.2 ≠ .cell) (head : ((params.posonlyargs ++ params.args).head?.map (·.arg)) = some "self")
    (hb1 : ∀ (s : Shared) (x : Value), BindsTo s (ksFn "__init__" qual params [.Expr (.Call (.Attribute (.Call (.Name "super" p0) [] [] p1) "__init__" p2) [.Constant (.str msg) k4 p3] [] p4) p5] scope dV kV doc pm an (.ref cda) ct cc) ⟨[x], []⟩ [("self", x)])
    (hev : ∀ L, ∃ pl : Sem Bool, PySem.eval (.Call (.Attribute (.Call (.Name "super" p0) [] [] p1) "__init__" p2) [.Constant (.str msg) k4 p3] [] p4) (ksEnv qual scope L fI (.ref cda) cc) = (do
      let ov ← attributeBase (.Call (.Name "super" p0) [] [] p1) "__init__" (ksEnv qual scope L fI (.ref cda) cc) (PySem.eval (.Call (.Name "super" p0) [] [] p1) (ksEnv qual scope L fI (.ref cda) cc))
      standAt p2.atName
      let (f, first) ← holding [ov] (getMethod ov "__init__" pl)
      callWith p4 f first (backTo p4 (starEach [.Constant (.str msg) k4 p3] (ksEnv qual scope L fI (.ref cda) cc))) [])) : RowN P K mg x C := by
  have T : SupC K P C fI cc cda B newId initId bmB qual "self" scope params := ⟨FB, KF, SF, q, ov, hh, sa, iC, tI, ⟨_, _, _, cell⟩, ⟨_, _, _, _, _, _, code, hvs, hfile⟩, cdI, ⟨_, cls⟩, self, sup, sB, noOp, top, kind, co, gen, nS, nC, nA, noCell, head⟩
  have hms := mg_none_of X G zS
  exact ⟨mg_of X G aC, kC, fun w A h g d t os mb R hr X hl hg hb hbs hq => make_none T lk X hl hg hms hb hbs hr hb1 hev hq, ⟨hg, hk, hs, hh, ha, hn, ht, hm⟩⟩
end
end Sg

namespace Gx
open PySem PySem.Spec PyProof.Rows L2
/-! ### the end of a law's row -/
theorem sys_of {h : Heap} (x : h.NoSeer) : ∃ m, h.Ns sysModules m := let ⟨m, z, _⟩ := x.mods; ⟨m, z⟩
section
variable {P : Program} {w : World} {K : PySem.W.Frag} {mg mb : Str → Option Value} {CX : CXT} {k : Nat} {fa a : Addr} {fd : FuncData} {x : Str} {sp : Sp} {s₁ : Shared} {vs : List Value} {ns : List Int}
/-- from an abstract heap in which the script alone may stand -/
theorem law_coreS (KX : K.In s₁.heap) (hns : s₁.heap.Ns mainGlobals mg) (hb : s₁.heap.Ns builtinsNs mb) (hbb : ∀ x : Str, x ≠ "__name__" → mb x = bootBuiltins x) (hlim : s₁.heap.NoLimit) (hg : s₁.gens = #[])
    (ha : s₁.heap.get? a = some { cls := .type "list", data := .seq vs.toArray }) (hr : Room k callerA)
    (hm : ∃ m, s₁.heap.Ns sysModules m) (F : ∀ base : Heap, K.In base → base.Ns mainGlobals mg → (∃ m, base.Ns sysModules m) → FnG P w K mg base CX k fa fd [x] sp) (hbind : ∀ (s : Shared) (u : Value), BindsTo s fd ⟨[u], []⟩ [(x, u)])
    (hCX : ∀ H e s', CX [] H s₁ (fun _ _ _ => False) e s' → False) {H : Hp} (hO : Only H) (hsp : sp [.ref a] H (fun v _ => v = .bl true) fun _ _ _ => False) (hok : HOk P w H s₁.heap) (hA : ∀ b, H b ≠ none → b = a) (hK : H a ≠ none → K.lookup a = none) :
    codeAny (model P w) callerA (.call (.ref fa) ⟨[.ref a], []⟩) (fun r s' => r = .ok (.ret (.bool true)) ∧ OldK s₁.heap s'.heap ∧ s'.os = s₁.os ∧ AllBare s'.gens) s₁ := by
  have out : ∀ {b : Addr}, b ≠ a → H b = none := fun {b} n => by
    cases q : H b with
    | none => rfl
    | some u => exact absurd (hA b (by rw [q]; simp)) n
  have dict_out : ∀ {b : Addr} {o : Obj} {es : Array DictEntry} {ep : Nat}, s₁.heap.get? b = some o → o.data = .dict es ep → H b = none := fun {b o es ep} z d => out fun y => by
    rw [y, ha] at z
    cases z
    cases d
  have nsB : ∀ {b : Addr} {m : Str → Option Value}, s₁.heap.Ns b m → (hidT s₁.heap H).Ns b m := fun ⟨o, es, ep, z, d, r⟩ => ⟨o, es, ep, hidT_get z (dict_out z d), d, r⟩
  have kB : K.In (hidT s₁.heap H) := fun b o z => hidT_get (KX b o z) (by
    cases q : H b with
    | none => rfl
    | some u =>
      have y := hA b (by rw [q]; simp)
      rw [y] at q z
      rw [hK (by rw [q]; simp)] at z
      cases z)
  obtain ⟨mc, c1, c2⟩ := hlim
  have e0 : Env0 P w K mg (hidT s₁.heap H) callerA [] s₁ H :=
    ⟨rfl, ⟨kB, nsB hns, ⟨mb, nsB hb, hbb⟩, ⟨mc, nsB c1, c2⟩⟩, fun b o z => of_hidT z, Nat.le_of_eq (hidT_size _ _), trivial, fun b z => absurd (show b ∈ ([] : List Addr) from z) (by simp), hok, .of_eq hg⟩
  refine codeAny_mono ((F _ kB (nsB hns) (let ⟨_, z⟩ := hm; ⟨_, nsB z⟩)).run callerA [] s₁ H ⟨[.ref a], []⟩ [.ref a] [.ref a] _ _ rfl hr e0 (hbind s₁ (.ref a)) (.cons rfl .nil) hsp) fun r s' z => ?_
  rcases r with e | fl
  · exact (hCX H e s' z).elim
  · cases fl with
    | ret u =>
      obtain ⟨v, H', os, bare, un, hok', rv, q⟩ := z
      have q : v = .bl true := q
      subst q
      obtain rfl : u = Value.bool true := rv
      refine ⟨rfl, OldK.of_keep fun b o e => ?_, os, bare⟩
      rcases hO b with y | ⟨ob, xs, y⟩
      · exact un.keep b o e y (fun z => absurd (show b ∈ ([] : List Addr) from z) (by simp)) (by simp)
      · obtain ⟨e1, _⟩ := hok b _ y
        obtain ⟨e2, _⟩ := hok' b _ (un.frzs b ob _ y)
        rw [e] at e1
        cases e1
        exact e2
    | next => exact z.elim
    | brk => exact z.elim
    | cont => exact z.elim
theorem law_callGS (KX : K.In s₁.heap) (hns : s₁.heap.Ns mainGlobals mg) (hb : s₁.heap.Ns builtinsNs mb) (hbb : ∀ x : Str, x ≠ "__name__" → mb x = bootBuiltins x) (hlim : s₁.heap.NoLimit) (hg : s₁.gens = #[])
    (ha : s₁.heap.get? a = some { cls := .type "list", data := .seq vs.toArray }) (hi : IntsAre vs ns) (hl : ns.length ≤ sizeLine) (hr : Room k callerA)
    (hm : ∃ m, s₁.heap.Ns sysModules m) (F : ∀ base : Heap, K.In base → base.Ns mainGlobals mg → (∃ m, base.Ns sysModules m) → FnG P w K mg base CX k fa fd [x] sp) (hbind : ∀ (s : Shared) (u : Value), BindsTo s fd ⟨[u], []⟩ [(x, u)])
    (hsp : ∀ H : Hp, Only H → SqL K H a (ns.map V.int) → sp [.ref a] H (fun v _ => v = .bl true) fun _ _ _ => False) (hCX : ∀ H e s', CX [] H s₁ (fun _ _ _ => False) e s' → False) :
    codeAny (model P w) callerA (.call (.ref fa) ⟨[.ref a], []⟩) (fun r s' => r = .ok (.ret (.bool true)) ∧ OldK s₁.heap s'.heap ∧ s'.os = s₁.os ∧ AllBare s'.gens) s₁ := by
  have rv := vals_ints hi
  cases hk : K.lookup a with
  | some o =>
    have e := KX a o hk
    rw [ha] at e
    cases e
    exact law_coreS KX hns hb hbb hlim hg ha hr hm F hbind hCX (H := fun _ => none) (fun _ => .inl rfl) (hsp _ (fun _ => .inl rfl) (.inr ⟨_, vs.toArray, _, hk, rfl, rfl, rfl, by rw [List.size_toArray, hi.length]; exact hl, by simpa using rv⟩))
      (fun b u z => nomatch z) (fun b z => absurd rfl z) fun z => absurd rfl z
  | none =>
    let H : Hp := fun b => if b = a then some (.frz { cls := .type "list", data := .seq vs.toArray } (.lst (ns.map V.int))) else none
    have H1 : H a = some (.frz { cls := .type "list", data := .seq vs.toArray } (.lst (ns.map V.int))) := if_pos rfl
    have H2 : ∀ {b}, b ≠ a → H b = none := fun n => if_neg n
    have hO : Only H := fun b => by
      by_cases e : b = a
      · rw [e]; exact .inr ⟨_, _, H1⟩
      · exact .inl (H2 e)
    refine law_coreS KX hns hb hbb hlim hg ha hr hm F hbind hCX hO (hsp _ hO (.inl (.inr ⟨_, H1⟩))) (fun b u z => ?_) (fun b z => ?_) fun _ => hk
    · by_cases e : b = a
      · subst e
        rw [H1] at z
        cases z
        exact ⟨ha, by rw [List.length_map]; exact hl, vs, _, rv, ha⟩
      · rw [H2 e] at z
        cases z
    · by_cases e : b = a
      · exact e
      · exact absurd (H2 e) z
end
/-- the goal that k_head leaves -/
theorem walk_ofGS {l : PySem.W.OpenLaw} {n k : Nat} {q : Program} {loose : List Str} {XP : (Str → Option Value) → Heap → Prop} {YP : World → Heap → Prop} {d : DefRec} {K : Params → PySem.W.Frag} {sp : PySem.W.Frag → Sp} {x : Str}
    (hq : importsNone q = true) (hn : l.most = some n) (hn2 : n ≤ sizeLine) (hdf : d.params.defaults = []) (hr : Room k callerA) (hY : ∀ (w : World) (h : Heap), YP w h → (K w.params).In h)
    (F : ∀ (w : World) (mg : Str → Option Value) (fa : Addr) (h : Heap), (K w.params).In h → h.Ns mainGlobals mg → mg d.name = some (.ref fa) →
      ∃ fd : FuncData, (∀ (s : Shared) (u : Value), BindsTo s fd ⟨[u], []⟩ [(x, u)]) ∧ ∀ base : Heap, (K w.params).In base → base.Ns mainGlobals mg → (∃ m, base.Ns sysModules m) → FnG l.prog w (K w.params) mg base CX0 k fa fd [x] (sp (K w.params)))
    (hsp : ∀ (K : PySem.W.Frag) (H : Hp) (a : Addr) (ns : List Int), ns.length ≤ n → Only H → SqL K H a (ns.map V.int) → sp K [.ref a] H (fun v _ => v = .bl true) fun _ _ _ => False) :
    PySem.W.WalkO q loose XP YP l.row.toRowW d [] (fun f vs => PySem.call f vs) := by
  refine Att.attach_call hn hdf fun w s₀ s₁ mg mb fa o pm cd doc a vs ns G Y ho hd hcd hmg hobj hints hlen hg => ?_
  have KX := hY w _ Y
  obtain ⟨fd, hb, hF⟩ := F w mg fa _ KX G.T.g hmg
  exact law_callGS KX G.T.g G.T.b G.T.builtins G.T.nolimit hg hobj hints (Nat.le_trans hlen hn2) hr (sys_of (G.T.seer hq)) hF hb (fun H hO hS => hsp (K w.params) H a ns hlen hO hS) fun _ _ _ z => z
end Gx

namespace Sg
open PySem PySem.Spec PyProof.Rows L2 Gx Sx RZ SlX
theorem two_get {α β : Type} {f : α → α → β} {g : Nat → Nat → β} {l : List α} {n : Nat} (h : (l.map fun a => l.map fun b => f a b) = (List.range n).map fun i => (List.range n).map fun j => g i j) {i j : Nat} {a b : α} (ha : l[i]? = some a) (hb : l[j]? = some b) : f a b = g i j := by
  have hl : l.length = n := by
    have := congrArg List.length h
    rw [List.length_map, List.length_map, List.length_range] at this
    exact this
  have hi := (List.getElem?_eq_some_iff.mp ha).1
  have hj := (List.getElem?_eq_some_iff.mp hb).1
  have e := congrArg (fun l => l[i]?) h
  simp only [List.getElem?_map, ha, Option.map_some] at e
  rw [List.getElem?_range (by omega)] at e
  have e2 := congrArg (fun l => l[j]?) (Option.some.inj e)
  simp only [List.getElem?_map, hb, Option.map_some] at e2
  rw [List.getElem?_range (by omega)] at e2
  exact Option.some.inj e2
theorem one_get {α β : Type} {f : α → β} {g : Nat → β} {l : List α} {n : Nat} (h : (l.map f) = (List.range n).map g) {i : Nat} {a : α} (ha : l[i]? = some a) : f a = g i := by
  have hl : l.length = n := by
    have := congrArg List.length h
    rw [List.length_map, List.length_map, List.length_range] at this
    exact this
  have hi := (List.getElem?_eq_some_iff.mp ha).1
  have e := congrArg (fun l => l[i]?) h
  simp only [List.getElem?_map, ha, Option.map_some] at e
  rw [List.getElem?_range (by omega)] at e
  exact Option.some.inj e
abbrev blts : List String := ["NoneType", "int", "str", "tuple", "list", "dict"]
theorem all_get {β : Type} {f : String → β} {v : β} (h : blts.map f = List.replicate 6 v) {T : String} (hT : T ∈ blts) : f T = v := by
  have : f T ∈ blts.map f := List.mem_map.mpr ⟨T, hT, rfl⟩
  rw [h] at this
  exact (List.mem_replicate.mp this).2
theorem all_mk {P : Program} {w : World} {K : PySem.W.Frag} {h : Heap} {mg : Str → Option Value} {fa C c0 c1 c2 c3 c4 c5 c6 c7 c8 c9 c10 c11 cR : Addr} {tk : Tok} (X : K.In h) (G : h.Ns mainGlobals mg) (hfa : mg "law" = some (.ref fa))
    {odW anW : Option Addr} {slW : Array (Option Value)} {ocW kVW dcW pmW cdW ctW : Value} {fW : Addr} 
    {odS anS : Option Addr} {slS : Array (Option Value)} {ocS kVS dcS pmS cdS ctS : Value} {fS : Addr} 
    {odK anK : Option Addr} {slK : Array (Option Value)} {ocK kVK dcK pmK cdK ctK : Value} {fK : Addr} 
    {odD anD : Option Addr} {slD : Array (Option Value)} {ocD kVD dcD pmD cdD ctD : Value} {fD : Addr} 
    {odX anX : Option Addr} {slX : Array (Option Value)} {ocX kVX dcX pmX cdX ctX : Value} {fX : Addr} 
    {odF anF : Option Addr} {slF : Array (Option Value)} {ocF kVF dcF pmF cdF ctF : Value} {fF : Addr} 
    {odR anR : Option Addr} {slR : Array (Option Value)} {ocR kVR dcR pmR cdR ctR : Value} {fR : Addr} 
    {odB anB : Option Addr} {slB : Array (Option Value)} {ocB kVB dcB pmB cdB ctB : Value} {fB : Addr} 
    {odE anE : Option Addr} {slE : Array (Option Value)} {ocE kVE dcE pmE cdE ctE : Value} {fE : Addr} 
    {odL anL : Option Addr} {slL : Array (Option Value)} {ocL kVL dcL pmL cdL ctL : Value} {fL : Addr} 
    {odI anI : Option Addr} {slI : Array (Option Value)} {ocI kVI dcI pmI cdI ctI : Value} {fI : Addr} 
    {odQ anQ : Option Addr} {slQ : Array (Option Value)} {ocQ kVQ dcQ pmQ cdQ ctQ : Value} {fQ : Addr} 
    (aW : PySem.W.nsIn K mainGlobals "is_whole" = some (some (.ref fW))) (lW : K.lookup fW = some ⟨ocW, odW, .func (PySem.W.fnOf "is_whole" "is_whole" (defArgs sWhole) (defBody sWhole) (defScope sWhole) .none kVW dcW pmW anW cdW ctW), slW⟩) (dW : PySem.W.codeIn K cdW "is_whole" = true) (kW : PySem.W.keepIn K (.ref fW) = true)
    (aS : PySem.W.nsIn K mainGlobals "is_set" = some (some (.ref fS))) (lS : K.lookup fS = some ⟨ocS, odS, .func (PySem.W.fnOf "is_set" "is_set" (defArgs sSet) (defBody sSet) (defScope sSet) .none kVS dcS pmS anS cdS ctS), slS⟩) (dS : PySem.W.codeIn K cdS "is_set" = true) (kS : PySem.W.keepIn K (.ref fS) = true)
    (aK : PySem.W.nsIn K mainGlobals "check_stars" = some (some (.ref fK))) (lK : K.lookup fK = some ⟨ocK, odK, .func (PySem.W.fnOf "check_stars" "check_stars" (defArgs sCheck) (defBody sCheck) (defScope sCheck) .none kVK dcK pmK anK cdK ctK), slK⟩) (dK : PySem.W.codeIn K cdK "check_stars" = true) (kK : PySem.W.keepIn K (.ref fK) = true)
    (aD : PySem.W.nsIn K mainGlobals "sides_of" = some (some (.ref fD))) (lD : K.lookup fD = some ⟨ocD, odD, .func (PySem.W.fnOf "sides_of" "sides_of" (defArgs sSides) (defBody sSides) (defScope sSides) .none kVD dcD pmD anD cdD ctD), slD⟩) (dD : PySem.W.codeIn K cdD "sides_of" = true) (kD : PySem.W.keepIn K (.ref fD) = true)
    (aX : PySem.W.nsIn K mainGlobals "_law_mixed" = some (some (.ref fX))) (lX : K.lookup fX = some ⟨ocX, odX, .func (PySem.W.fnOf "_law_mixed" "_law_mixed" (defArgs sMixed) (defBody sMixed) (defScope sMixed) .none kVX dcX pmX anX cdX ctX), slX⟩) (dX : PySem.W.codeIn K cdX "_law_mixed" = true) (kX : PySem.W.keepIn K (.ref fX) = true)
    (aF : PySem.W.nsIn K mainGlobals "_law_folded" = some (some (.ref fF))) (lF : K.lookup fF = some ⟨ocF, odF, .func (PySem.W.fnOf "_law_folded" "_law_folded" (defArgs sFolded) (defBody sFolded) (defScope sFolded) .none kVF dcF pmF anF cdF ctF), slF⟩) (dF : PySem.W.codeIn K cdF "_law_folded" = true) (kF : PySem.W.keepIn K (.ref fF) = true)
    (aR : PySem.W.nsIn K mainGlobals "_law_draw" = some (some (.ref fR))) (lR : K.lookup fR = some ⟨ocR, odR, .func (PySem.W.fnOf "_law_draw" "_law_draw" (defArgs sDraw) (defBody sDraw) (defScope sDraw) .none kVR dcR pmR anR cdR ctR), slR⟩) (dR : PySem.W.codeIn K cdR "_law_draw" = true) (kR : PySem.W.keepIn K (.ref fR) = true)
    (aB : PySem.W.nsIn K mainGlobals "_law_begun" = some (some (.ref fB))) (lB : K.lookup fB = some ⟨ocB, odB, .func (PySem.W.fnOf "_law_begun" "_law_begun" (defArgs sBegun) (defBody sBegun) (defScope sBegun) .none kVB dcB pmB anB cdB ctB), slB⟩) (dB : PySem.W.codeIn K cdB "_law_begun" = true) (kB : PySem.W.keepIn K (.ref fB) = true)
    (aE : PySem.W.nsIn K mainGlobals "_law_class" = some (some (.ref fE))) (lE : K.lookup fE = some ⟨ocE, odE, .func (PySem.W.fnOf "_law_class" "_law_class" (defArgs sClass) (defBody sClass) (defScope sClass) .none kVE dcE pmE anE cdE ctE), slE⟩) (dE : PySem.W.codeIn K cdE "_law_class" = true) (kE : PySem.W.keepIn K (.ref fE) = true)
    (aL : PySem.W.nsIn K mainGlobals "law" = some (some (.ref fL))) (lL : K.lookup fL = some ⟨ocL, odL, .func (PySem.W.fnOf "law" "law" (defArgs sLaw) (defBody sLaw) (defScope sLaw) .none kVL dcL pmL anL cdL ctL), slL⟩) (dL : PySem.W.codeIn K cdL "law" = true) (kL : PySem.W.keepIn K (.ref fL) = true)
    (aC : PySem.W.nsIn K mainGlobals "Web" = some (some (.ref C))) (kC : PySem.W.keepIn K (.ref C) = true) (pg : PySem.W.plainGet K C Str.empty = true) (hd : PySem.W.hasDictIn K C = true) (po : PySem.W.plainOver K C = true) (sa : PySem.W.findIn K (.ref C) "__setattr__" = some (some (.builtin "object.__setattr__"))) (mk : PySem.W.makesIn K C = true)
    (nSt : PySem.W.findIn K (.ref C) "stars" = some none) (nSi : PySem.W.findIn K (.ref C) "sides" = some none)
    (aI : PySem.W.findIn K (.ref C) "__init__" = some (some (.ref fI))) (iI : PySem.W.isFn K (.ref fI) = true) (lI : K.lookup fI = some ⟨ocI, odI, .func (PySem.W.fnOf "__init__" "Web.__init__" (defArgs sWInit) (defBody sWInit) (defScope sWInit) .none kVI dcI pmI anI cdI ctI), slI⟩) (dI : PySem.W.codeIn K cdI "Web.__init__" = true) (kI : PySem.W.keepIn K (.ref fI) = true)
    (aQ : PySem.W.findIn K (.ref C) "__eq__" = some (some (.ref fQ))) (iQ : PySem.W.isFn K (.ref fQ) = true) (lQ : K.lookup fQ = some ⟨ocQ, odQ, .func (PySem.W.fnOf "__eq__" "Web.__eq__" (defArgs sWEq) (defBody sWEq) (defScope sWEq) .none kVQ dcQ pmQ anQ cdQ ctQ), slQ⟩) (dQ : PySem.W.codeIn K cdQ "Web.__eq__" = true) (kQ : PySem.W.keepIn K (.ref fQ) = true)
    (wha : PySem.W.findIn K (.ref C) "__class__" = some (some (.builtin "object.__class__"))) (whn : PySem.W.specialIn K (.builtin "object.__class__") "__get__" = some (some (.builtin "getset_descriptor.__get__"))) (wht : PySem.W.takesIn K (.builtin "object.__class__") = some true) (whm : PySem.W.mroIn K C (.type "object") = some true)
    (wkk : PySem.W.kitOne K (.ref C) (.ref C) = some true) (wne : PySem.W.findIn K (.ref C) "__ne__" = some (some (.builtin "object.__ne__"))) (wsub : (blts.map fun T => PySem.W.subIn K (.ref C) (.type T)) = List.replicate 6 (some false)) (wnf : (blts.map fun T => PySem.W.notFirst K C (.type T)) = List.replicate 6 true)
    (wnfo : PySem.W.notFirst K C (.ref C) = true) (wki : (blts.map fun T => PySem.W.kitOne K (.type T) (.ref C)) = List.replicate 6 (some false)) (aM : PySem.W.nsIn K mainGlobals "MOST_TIES" = some (some (.int 12 tk)))
    (z_isinstance : PySem.W.nsIn K mainGlobals "isinstance" = some none)
    (z_int : PySem.W.nsIn K mainGlobals "int" = some none)
    (z_bool : PySem.W.nsIn K mainGlobals "bool" = some none)
    (z_tuple : PySem.W.nsIn K mainGlobals "tuple" = some none)
    (z_all : PySem.W.nsIn K mainGlobals "all" = some none)
    (z_zip : PySem.W.nsIn K mainGlobals "zip" = some none)
    (z_list : PySem.W.nsIn K mainGlobals "list" = some none)
    (z_enumerate : PySem.W.nsIn K mainGlobals "enumerate" = some none)
    (z_len : PySem.W.nsIn K mainGlobals "len" = some none)
    (z_max : PySem.W.nsIn K mainGlobals "max" = some none)
    (z_range : PySem.W.nsIn K mainGlobals "range" = some none)
    (z_repr : PySem.W.nsIn K mainGlobals "repr" = some none)
    (z_ValueError : PySem.W.nsIn K mainGlobals "ValueError" = some none)
    (z_OverflowError : PySem.W.nsIn K mainGlobals "OverflowError" = some none)
    (r0 : Row P K mg "BadStars" c0 "place")
    (r1 : Row P K mg "BadEnds" c1 "place")
    (r2 : Row P K mg "BadDeed" c2 "place")
    (r3 : Row P K mg "BadText" c3 "place")
    (r4 : Row P K mg "BadSet" c4 "value")
    (r5 : Row P K mg "BadNumber" c5 "value")
    (r6 : Row P K mg "BadTree" c6 "value")
    (r7 : Row P K mg "TooGreat" c7 "most")
    (r8 : Row P K mg "BadName" c8 "value")
    (r9 : RowN P K mg "OtherTies" c9)
    (r10 : RowN P K mg "Apart" c10)
    (r11 : RowN P K mg "NothingLeft" c11)
    (aRE : PySem.W.nsIn K mainGlobals "RoundError" = some (some (.ref cR)))
    (tK : ([c0, c1, c2, c3, c4, c5, c6, c7, c8, c9, c10, c11].map fun a => [c0, c1, c2, c3, c4, c5, c6, c7, c8, c9, c10, c11].map fun b => PySem.W.kitOne K (.ref a) (.ref b)) = (List.range 12).map fun i => (List.range 12).map fun j => some (decide (i = j)))
    (tR : ([c0, c1, c2, c3, c4, c5, c6, c7, c8, c9, c10, c11].map fun a => PySem.W.kitOne K (.ref a) (.ref cR)) = (List.range 12).map fun i => some (decide (i ≠ 7)))
    (tV : ([c0, c1, c2, c3, c4, c5, c6, c7, c8, c9, c10, c11].map fun a => PySem.W.kitOne K (.ref a) (.type "ValueError")) = (List.range 12).map fun i => some (decide (i ≠ 7)))
    (tO : ([c0, c1, c2, c3, c4, c5, c6, c7, c8, c9, c10, c11].map fun a => PySem.W.kitOne K (.ref a) (.type "OverflowError")) = (List.range 12).map fun i => some (decide (i = 7))) :
    ∃ fd : FuncData, (∀ (s : Shared) (v : Value), BindsTo s fd ⟨[v], []⟩ [("script", v)]) ∧ ∀ base : Heap, K.In base → base.Ns mainGlobals mg → (∃ m, base.Ns sysModules m) → FnG P w K mg base CX0 6 fa fd ["script"] (spLaw K) := by
  have e := hfa.symm.trans (PySem.W.mg_of X G aL)
  cases e
  have FW := fun_mk (st := sWhole) lW dW kW
  have FS := fun_mk (st := sSet) lS dS kS
  have FK := fun_mk (st := sCheck) lK dK kK
  have FD := fun_mk (st := sSides) lD dD kD
  have FX := fun_mk (st := sMixed) lX dX kX
  have FF := fun_mk (st := sFolded) lF dF kF
  have FR := fun_mk (st := sDraw) lR dR kR
  have FB := fun_mk (st := sBegun) lB dB kB
  have FE := fun_mk (st := sClass) lE dE kE
  have FL := fun_mk (st := sLaw) lL dL kL
  have FI := fun_mk (st := sWInit) lI dI kI
  have FQ := fun_mk (st := sWEq) lQ dQ kQ
  have bW := FW.binds (ps := ["value", "many"]) fun _ _ _ _ _ _ us hl => match us, hl with | [_, _], _ => rfl
  have bS := FS.binds (ps := ["value", "many"]) fun _ _ _ _ _ _ us hl => match us, hl with | [_, _], _ => rfl
  have bK := FK.binds (ps := ["stars"]) fun _ _ _ _ _ _ us hl => match us, hl with | [_], _ => rfl
  have bD := FD.binds (ps := ["stars"]) fun _ _ _ _ _ _ us hl => match us, hl with | [_], _ => rfl
  have bX := FX.binds (ps := ["cell", "n"]) fun _ _ _ _ _ _ us hl => match us, hl with | [_, _], _ => rfl
  have bF := FF.binds (ps := ["script"]) fun _ _ _ _ _ _ us hl => match us, hl with | [_], _ => rfl
  have bR := FR.binds (ps := ["m", "limit"]) fun _ _ _ _ _ _ us hl => match us, hl with | [_, _], _ => rfl
  have bB := FB.binds (ps := ["script"]) fun _ _ _ _ _ _ us hl => match us, hl with | [_], _ => rfl
  have bE := FE.binds (ps := ["error"]) fun _ _ _ _ _ _ us hl => match us, hl with | [_], _ => rfl
  have bI := FI.binds (ps := ["self", "stars"]) fun _ _ _ _ _ _ us hl => match us, hl with | [_, _], _ => rfl
  have bQ := FQ.binds (ps := ["self", "other"]) fun _ _ _ _ _ _ us hl => match us, hl with | [_, _], _ => rfl
  have m_isinstance := PySem.W.mg_none_of X G z_isinstance
  have m_int := PySem.W.mg_none_of X G z_int
  have m_bool := PySem.W.mg_none_of X G z_bool
  have m_tuple := PySem.W.mg_none_of X G z_tuple
  have m_all := PySem.W.mg_none_of X G z_all
  have m_zip := PySem.W.mg_none_of X G z_zip
  have m_list := PySem.W.mg_none_of X G z_list
  have m_enumerate := PySem.W.mg_none_of X G z_enumerate
  have m_len := PySem.W.mg_none_of X G z_len
  have m_max := PySem.W.mg_none_of X G z_max
  have m_range := PySem.W.mg_none_of X G z_range
  have m_repr := PySem.W.mg_none_of X G z_repr
  have m_ValueError := PySem.W.mg_none_of X G z_ValueError
  have m_OverflowError := PySem.W.mg_none_of X G z_OverflowError
  have gW := PySem.W.mg_of X G aW
  have gS := PySem.W.mg_of X G aS
  have gK := PySem.W.mg_of X G aK
  have gD := PySem.W.mg_of X G aD
  have gX := PySem.W.mg_of X G aX
  have gF := PySem.W.mg_of X G aF
  have gR := PySem.W.mg_of X G aR
  have gB := PySem.W.mg_of X G aB
  have gE := PySem.W.mg_of X G aE
  have T : WebC K mg C := ⟨⟨pg, hd, po, sa⟩, nSt, nSi, PySem.W.mg_of X G aC⟩
  have TI : WebI K C := ⟨wha, whn, wht, whm, wkk⟩
  have TE : WebE K C fQ := ⟨aQ, iQ, wne, fun T hT => all_get wsub hT, fun T hT => all_get wnf hT, wnfo, fun T hT => all_get wki hT⟩
  have TR : Errs P K mg c0 c1 c2 c3 c4 c5 c6 c7 c8 c9 c10 c11 cR := ⟨r0, r1, r2, r3, r4, r5, r6, r7, r8, r9, r10, r11, PySem.W.mg_of X G aRE, fun i j a b ha hb => two_get tK ha hb, fun i a ha => one_get tR ha, fun i a ha => one_get tV ha, fun i a ha => one_get tO ha⟩
  refine ⟨PySem.W.fnOf "law" "law" (defArgs sLaw) (defBody sLaw) (defScope sLaw) .none kVL dcL pmL anL cdL ctL, fun s v => .of_eq rfl, fun base _ _ tS => ?_⟩
  have GW : FnOk P w K mg base CX0 1 fW _ ["value", "many"] spWhole := ok_whole FW m_isinstance m_int m_bool
  have GS : FnOk P w K mg base CX0 2 fS _ ["value", "many"] (spSet K) := ok_set FS GW gW kW bW m_isinstance m_tuple m_all m_zip
  have GK : FnOk P w K mg base CX0 3 fK _ ["stars"] (spCheck K) := ok_check FK GS gS kS bS (PySem.W.mg_of X G aM) m_isinstance m_list m_tuple m_enumerate m_len
  have GD : FnOk P w K mg base CX0 1 fD _ ["stars"] (spSides K) := ok_sides FD m_max m_range m_enumerate m_tuple
  have GI : FnOk P w K mg base CX0 4 fI _ ["self", "stars"] (spWInit K C) := ok_winit FI T GK gK kK bK GD gD kD bD m_tuple
  have GQ : FnOk P w K mg base CX0 1 fQ _ ["self", "other"] (spWEq K C) := ok_weq FQ T TI m_isinstance
  have GX : FnOk P w K mg base CX0 1 fX _ ["cell", "n"] spMixed := ok_mixed FX m_int
  have GF : FnOk P w K mg base CX0 1 fF _ ["script"] (spFolded K) := ok_folded FF m_int m_range m_enumerate
  have GB : FnOk P w K mg base CX0 2 fB _ ["script"] (spBegun K) := ok_begun FB GF gF kF bF
  have GR : FnOk P w K mg base CX0 2 fR _ ["m", "limit"] spDraw := ok_draw FR GX gX kX bX m_int m_len
  have GE : FnOk P w K mg base CX0 1 fE _ ["error"] (spClass K [c0, c1, c2, c3, c4, c5, c6, c7, c8, c9, c10, c11]) := ok_class FE TR m_isinstance m_len
  exact ok_law FL TR GB gB kB bB GR gR kR bR GE gE kE bE GI bI ⟨mk, aI, iI, kC⟩ T TI GQ bQ TE tS m_repr m_isinstance m_range m_ValueError m_OverflowError
end Sg

open PySem PySem.W PyProof.Rows Sg in
set_option maxRecDepth 100000 in
set_option maxHeartbeats 0 in
theorem PySem.Challenge.cw_samerounds_k78_exceptions_of_both_parts_holds : PySem.Challenge.rw_samerounds_k78_exceptions_of_both_parts.Holds := by
  w_on; o_law; k_head; (case hw => w_witness2)
  k_fill
  refine Gx.walk_ofGS (l := PySem.Challenge.rw_samerounds_k78_exceptions_of_both_parts) (n := 63) (k := 6) (x := "script") (sp := Sg.spLaw) (by first | rfl | decide +kernel) rfl (by decide) rfl ⟨rfl, by decide, by decide⟩ (fun w h Y => PySem.W.kIn_of Y) ?F (fun K H a ns hl hO hS => ⟨a, ns, rfl, hS, hl, fun _ => rfl⟩)
  case F =>
    intro w mg fa h KX G hmg
    refine' Sg.all_mk KX G hmg ?aW ?lW ?dW ?kW ?aS ?lS ?dS ?kS ?aK ?lK ?dK ?kK ?aD ?lD ?dD ?kD ?aX ?lX ?dX ?kX ?aF ?lF ?dF ?kF ?aR ?lR ?dR ?kR ?aB ?lB ?dB ?kB ?aE ?lE ?dE ?kE ?aL ?lL ?dL ?kL ?aC ?kC ?pg ?hd ?po ?sa ?mk ?nSt ?nSi ?aI ?iI ?lI ?dI ?kI ?aQ ?iQ ?lQ ?dQ ?kQ ?wha ?whn ?wht ?whm ?wkk ?wne ?wsub ?wnf ?wnfo ?wki ?aM ?z_isinstance ?z_int ?z_bool ?z_tuple ?z_all ?z_zip ?z_list ?z_enumerate ?z_len ?z_max ?z_range ?z_repr ?z_ValueError ?z_OverflowError ?r0 ?r1 ?r2 ?r3 ?r4 ?r5 ?r6 ?r7 ?r8 ?r9 ?r10 ?r11 ?aRE ?tK ?tR ?tV ?tO
    (case aW => k_is)
    (case lW => k_is)
    (case dW => k_is)
    (case kW => k_is)
    (case aS => k_is)
    (case lS => k_is)
    (case dS => k_is)
    (case kS => k_is)
    (case aK => k_is)
    (case lK => k_is)
    (case dK => k_is)
    (case kK => k_is)
    (case aD => k_is)
    (case lD => k_is)
    (case dD => k_is)
    (case kD => k_is)
    (case aX => k_is)
    (case lX => k_is)
    (case dX => k_is)
    (case kX => k_is)
    (case aF => k_is)
    (case lF => k_is)
    (case dF => k_is)
    (case kF => k_is)
    (case aR => k_is)
    (case lR => k_is)
    (case dR => k_is)
    (case kR => k_is)
    (case aB => k_is)
    (case lB => k_is)
    (case dB => k_is)
    (case kB => k_is)
    (case aE => k_is)
    (case lE => k_is)
    (case dE => k_is)
    (case kE => k_is)
    (case aL => k_is)
    (case lL => k_is)
    (case dL => k_is)
    (case kL => k_is)
    (case aC => k_is)
    (case kC => k_is)
    (case pg => k_is)
    (case hd => k_is)
    (case po => k_is)
    (case sa => k_is)
    (case mk => k_is)
    (case nSt => k_is)
    (case nSi => k_is)
    (case aI => k_is)
    (case iI => k_is)
    (case lI => k_is)
    (case dI => k_is)
    (case kI => k_is)
    (case aQ => k_is)
    (case iQ => k_is)
    (case lQ => k_is)
    (case dQ => k_is)
    (case kQ => k_is)
    (case wha => k_is)
    (case whn => k_is)
    (case wht => k_is)
    (case whm => k_is)
    (case wne => k_is)
    (case wnfo => k_is)
    (case aM => k_is)
    (case z_isinstance => k_is)
    (case z_int => k_is)
    (case z_bool => k_is)
    (case z_tuple => k_is)
    (case z_all => k_is)
    (case z_zip => k_is)
    (case z_list => k_is)
    (case z_enumerate => k_is)
    (case z_len => k_is)
    (case z_max => k_is)
    (case z_range => k_is)
    (case z_repr => k_is)
    (case z_ValueError => k_is)
    (case z_OverflowError => k_is)
    case r0 =>
      refine' Sg.row_of KX G PySem.F.excBase_ValueError PySem.W.kxs_ValueError PySem.F.store_ValueError ?aC ?kC ?iC ?lk ?tI ?cell ?code ?hvs ?hfile ?cdI ?cls ?self ?sup ?sB ?qX ?ov ?hh ?sa ?noOp ?zS ?hf ?fN ?hg ?hk ?hs ?ha ?hn ?ht ?hm ?top ?kind ?co ?gen ?nS ?nC ?nA ?noCell ?head ?np ?hpl ?hb1 ?hb2 ?hev ?hdp ?hcp
      (case aC => k_is)
      (case kC => k_is)
      (case iC => k_is)
      (case lk => k_is)
      (case tI => k_is)
      (case cell => k_is)
      (case code => k_is)
      (case hvs => exact rfl)
      (case hfile => decide +kernel)
      (case cdI => k_is)
      (case cls => k_is)
      (case self => k_is)
      (case sup => kernel_rfl)
      (case sB => k_is)
      (case qX => kernel_rfl)
      (case ov => kernel_rfl)
      (case hh => k_is)
      (case sa => k_is)
      (case noOp => k_is)
      (case zS => k_is)
      (case hf => k_is)
      (case fN => k_is)
      (case hg => k_is)
      (case hk => k_is)
      (case hs => k_is)
      (case ha => k_is)
      (case hn => k_is)
      (case ht => k_is)
      (case hm => k_is)
      (case top => decide +kernel)
      (case kind => exact rfl)
      (case co => exact rfl)
      (case gen => exact rfl)
      (case nS => exact rfl)
      (case nC => exact rfl)
      (case nA => exact rfl)
      (case noCell => decide +kernel)
      (case head => exact rfl)
      (case np => decide +kernel)
      (case hpl => exact rfl)
      (case hb1 => intros; exact .of_eq rfl)
      (case hb2 => intros; exact .of_eq rfl)
      (case hev => intro L; exact ⟨_, rfl⟩)
      (case hdp => decide +kernel)
      (case hcp => decide +kernel)
    case r1 =>
      refine' Sg.row_of KX G PySem.F.excBase_ValueError PySem.W.kxs_ValueError PySem.F.store_ValueError ?aC ?kC ?iC ?lk ?tI ?cell ?code ?hvs ?hfile ?cdI ?cls ?self ?sup ?sB ?qX ?ov ?hh ?sa ?noOp ?zS ?hf ?fN ?hg ?hk ?hs ?ha ?hn ?ht ?hm ?top ?kind ?co ?gen ?nS ?nC ?nA ?noCell ?head ?np ?hpl ?hb1 ?hb2 ?hev ?hdp ?hcp
      (case aC => k_is)
      (case kC => k_is)
      (case iC => k_is)
      (case lk => k_is)
      (case tI => k_is)
      (case cell => k_is)
      (case code => k_is)
      (case hvs => exact rfl)
      (case hfile => decide +kernel)
      (case cdI => k_is)
      (case cls => k_is)
      (case self => k_is)
      (case sup => kernel_rfl)
      (case sB => k_is)
      (case qX => kernel_rfl)
      (case ov => kernel_rfl)
      (case hh => k_is)
      (case sa => k_is)
      (case noOp => k_is)
      (case zS => k_is)
      (case hf => k_is)
      (case fN => k_is)
      (case hg => k_is)
      (case hk => k_is)
      (case hs => k_is)
      (case ha => k_is)
      (case hn => k_is)
      (case ht => k_is)
      (case hm => k_is)
      (case top => decide +kernel)
      (case kind => exact rfl)
      (case co => exact rfl)
      (case gen => exact rfl)
      (case nS => exact rfl)
      (case nC => exact rfl)
      (case nA => exact rfl)
      (case noCell => decide +kernel)
      (case head => exact rfl)
      (case np => decide +kernel)
      (case hpl => exact rfl)
      (case hb1 => intros; exact .of_eq rfl)
      (case hb2 => intros; exact .of_eq rfl)
      (case hev => intro L; exact ⟨_, rfl⟩)
      (case hdp => decide +kernel)
      (case hcp => decide +kernel)
    case r2 =>
      refine' Sg.row_of KX G PySem.F.excBase_ValueError PySem.W.kxs_ValueError PySem.F.store_ValueError ?aC ?kC ?iC ?lk ?tI ?cell ?code ?hvs ?hfile ?cdI ?cls ?self ?sup ?sB ?qX ?ov ?hh ?sa ?noOp ?zS ?hf ?fN ?hg ?hk ?hs ?ha ?hn ?ht ?hm ?top ?kind ?co ?gen ?nS ?nC ?nA ?noCell ?head ?np ?hpl ?hb1 ?hb2 ?hev ?hdp ?hcp
      (case aC => k_is)
      (case kC => k_is)
      (case iC => k_is)
      (case lk => k_is)
      (case tI => k_is)
      (case cell => k_is)
      (case code => k_is)
      (case hvs => exact rfl)
      (case hfile => decide +kernel)
      (case cdI => k_is)
      (case cls => k_is)
      (case self => k_is)
      (case sup => kernel_rfl)
      (case sB => k_is)
      (case qX => kernel_rfl)
      (case ov => kernel_rfl)
      (case hh => k_is)
      (case sa => k_is)
      (case noOp => k_is)
      (case zS => k_is)
      (case hf => k_is)
      (case fN => k_is)
      (case hg => k_is)
      (case hk => k_is)
      (case hs => k_is)
      (case ha => k_is)
      (case hn => k_is)
      (case ht => k_is)
      (case hm => k_is)
      (case top => decide +kernel)
      (case kind => exact rfl)
      (case co => exact rfl)
      (case gen => exact rfl)
      (case nS => exact rfl)
      (case nC => exact rfl)
      (case nA => exact rfl)
      (case noCell => decide +kernel)
      (case head => exact rfl)
      (case np => decide +kernel)
      (case hpl => exact rfl)
      (case hb1 => intros; exact .of_eq rfl)
      (case hb2 => intros; exact .of_eq rfl)
      (case hev => intro L; exact ⟨_, rfl⟩)
      (case hdp => decide +kernel)
      (case hcp => decide +kernel)
    case r3 =>
      refine' Sg.row_of KX G PySem.F.excBase_ValueError PySem.W.kxs_ValueError PySem.F.store_ValueError ?aC ?kC ?iC ?lk ?tI ?cell ?code ?hvs ?hfile ?cdI ?cls ?self ?sup ?sB ?qX ?ov ?hh ?sa ?noOp ?zS ?hf ?fN ?hg ?hk ?hs ?ha ?hn ?ht ?hm ?top ?kind ?co ?gen ?nS ?nC ?nA ?noCell ?head ?np ?hpl ?hb1 ?hb2 ?hev ?hdp ?hcp
      (case aC => k_is)
      (case kC => k_is)
      (case iC => k_is)
      (case lk => k_is)
      (case tI => k_is)
      (case cell => k_is)
      (case code => k_is)
      (case hvs => exact rfl)
      (case hfile => decide +kernel)
      (case cdI => k_is)
      (case cls => k_is)
      (case self => k_is)
      (case sup => kernel_rfl)
      (case sB => k_is)
      (case qX => kernel_rfl)
      (case ov => kernel_rfl)
      (case hh => k_is)
      (case sa => k_is)
      (case noOp => k_is)
      (case zS => k_is)
      (case hf => k_is)
      (case fN => k_is)
      (case hg => k_is)
      (case hk => k_is)
      (case hs => k_is)
      (case ha => k_is)
      (case hn => k_is)
      (case ht => k_is)
      (case hm => k_is)
      (case top => decide +kernel)
      (case kind => exact rfl)
      (case co => exact rfl)
      (case gen => exact rfl)
      (case nS => exact rfl)
      (case nC => exact rfl)
      (case nA => exact rfl)
      (case noCell => decide +kernel)
      (case head => exact rfl)
      (case np => decide +kernel)
      (case hpl => exact rfl)
      (case hb1 => intros; exact .of_eq rfl)
      (case hb2 => intros; exact .of_eq rfl)
      (case hev => intro L; exact ⟨_, rfl⟩)
      (case hdp => decide +kernel)
      (case hcp => decide +kernel)
    case r4 =>
      refine' Sg.row_of KX G PySem.F.excBase_ValueError PySem.W.kxs_ValueError PySem.F.store_ValueError ?aC ?kC ?iC ?lk ?tI ?cell ?code ?hvs ?hfile ?cdI ?cls ?self ?sup ?sB ?qX ?ov ?hh ?sa ?noOp ?zS ?hf ?fN ?hg ?hk ?hs ?ha ?hn ?ht ?hm ?top ?kind ?co ?gen ?nS ?nC ?nA ?noCell ?head ?np ?hpl ?hb1 ?hb2 ?hev ?hdp ?hcp
      (case aC => k_is)
      (case kC => k_is)
      (case iC => k_is)
      (case lk => k_is)
      (case tI => k_is)
      (case cell => k_is)
      (case code => k_is)
      (case hvs => exact rfl)
      (case hfile => decide +kernel)
      (case cdI => k_is)
      (case cls => k_is)
      (case self => k_is)
      (case sup => kernel_rfl)
      (case sB => k_is)
      (case qX => kernel_rfl)
      (case ov => kernel_rfl)
      (case hh => k_is)
      (case sa => k_is)
      (case noOp => k_is)
      (case zS => k_is)
      (case hf => k_is)
      (case fN => k_is)
      (case hg => k_is)
      (case hk => k_is)
      (case hs => k_is)
      (case ha => k_is)
      (case hn => k_is)
      (case ht => k_is)
      (case hm => k_is)
      (case top => decide +kernel)
      (case kind => exact rfl)
      (case co => exact rfl)
      (case gen => exact rfl)
      (case nS => exact rfl)
      (case nC => exact rfl)
      (case nA => exact rfl)
      (case noCell => decide +kernel)
      (case head => exact rfl)
      (case np => decide +kernel)
      (case hpl => exact rfl)
      (case hb1 => intros; exact .of_eq rfl)
      (case hb2 => intros; exact .of_eq rfl)
      (case hev => intro L; exact ⟨_, rfl⟩)
      (case hdp => decide +kernel)
      (case hcp => decide +kernel)
    case r5 =>
      refine' Sg.row_of KX G PySem.F.excBase_ValueError PySem.W.kxs_ValueError PySem.F.store_ValueError ?aC ?kC ?iC ?lk ?tI ?cell ?code ?hvs ?hfile ?cdI ?cls ?self ?sup ?sB ?qX ?ov ?hh ?sa ?noOp ?zS ?hf ?fN ?hg ?hk ?hs ?ha ?hn ?ht ?hm ?top ?kind ?co ?gen ?nS ?nC ?nA ?noCell ?head ?np ?hpl ?hb1 ?hb2 ?hev ?hdp ?hcp
      (case aC => k_is)
      (case kC => k_is)
      (case iC => k_is)
      (case lk => k_is)
      (case tI => k_is)
      (case cell => k_is)
      (case code => k_is)
      (case hvs => exact rfl)
      (case hfile => decide +kernel)
      (case cdI => k_is)
      (case cls => k_is)
      (case self => k_is)
      (case sup => kernel_rfl)
      (case sB => k_is)
      (case qX => kernel_rfl)
      (case ov => kernel_rfl)
      (case hh => k_is)
      (case sa => k_is)
      (case noOp => k_is)
      (case zS => k_is)
      (case hf => k_is)
      (case fN => k_is)
      (case hg => k_is)
      (case hk => k_is)
      (case hs => k_is)
      (case ha => k_is)
      (case hn => k_is)
      (case ht => k_is)
      (case hm => k_is)
      (case top => decide +kernel)
      (case kind => exact rfl)
      (case co => exact rfl)
      (case gen => exact rfl)
      (case nS => exact rfl)
      (case nC => exact rfl)
      (case nA => exact rfl)
      (case noCell => decide +kernel)
      (case head => exact rfl)
      (case np => decide +kernel)
      (case hpl => exact rfl)
      (case hb1 => intros; exact .of_eq rfl)
      (case hb2 => intros; exact .of_eq rfl)
      (case hev => intro L; exact ⟨_, rfl⟩)
      (case hdp => decide +kernel)
      (case hcp => decide +kernel)
    case r6 =>
      refine' Sg.row_of KX G PySem.F.excBase_ValueError PySem.W.kxs_ValueError PySem.F.store_ValueError ?aC ?kC ?iC ?lk ?tI ?cell ?code ?hvs ?hfile ?cdI ?cls ?self ?sup ?sB ?qX ?ov ?hh ?sa ?noOp ?zS ?hf ?fN ?hg ?hk ?hs ?ha ?hn ?ht ?hm ?top ?kind ?co ?gen ?nS ?nC ?nA ?noCell ?head ?np ?hpl ?hb1 ?hb2 ?hev ?hdp ?hcp
      (case aC => k_is)
      (case kC => k_is)
      (case iC => k_is)
      (case lk => k_is)
      (case tI => k_is)
      (case cell => k_is)
      (case code => k_is)
      (case hvs => exact rfl)
      (case hfile => decide +kernel)
      (case cdI => k_is)
      (case cls => k_is)
      (case self => k_is)
      (case sup => kernel_rfl)
      (case sB => k_is)
      (case qX => kernel_rfl)
      (case ov => kernel_rfl)
      (case hh => k_is)
      (case sa => k_is)
      (case noOp => k_is)
      (case zS => k_is)
      (case hf => k_is)
      (case fN => k_is)
      (case hg => k_is)
      (case hk => k_is)
      (case hs => k_is)
      (case ha => k_is)
      (case hn => k_is)
      (case ht => k_is)
      (case hm => k_is)
      (case top => decide +kernel)
      (case kind => exact rfl)
      (case co => exact rfl)
      (case gen => exact rfl)
      (case nS => exact rfl)
      (case nC => exact rfl)
      (case nA => exact rfl)
      (case noCell => decide +kernel)
      (case head => exact rfl)
      (case np => decide +kernel)
      (case hpl => exact rfl)
      (case hb1 => intros; exact .of_eq rfl)
      (case hb2 => intros; exact .of_eq rfl)
      (case hev => intro L; exact ⟨_, rfl⟩)
      (case hdp => decide +kernel)
      (case hcp => decide +kernel)
    case r7 =>
      refine' Sg.row_of KX G PySem.F.excBase_OverflowError PySem.W.kxs_OverflowError PySem.F.store_OverflowError ?aC ?kC ?iC ?lk ?tI ?cell ?code ?hvs ?hfile ?cdI ?cls ?self ?sup ?sB ?qX ?ov ?hh ?sa ?noOp ?zS ?hf ?fN ?hg ?hk ?hs ?ha ?hn ?ht ?hm ?top ?kind ?co ?gen ?nS ?nC ?nA ?noCell ?head ?np ?hpl ?hb1 ?hb2 ?hev ?hdp ?hcp
      (case aC => k_is)
      (case kC => k_is)
      (case iC => k_is)
      (case lk => k_is)
      (case tI => k_is)
      (case cell => k_is)
      (case code => k_is)
      (case hvs => exact rfl)
      (case hfile => decide +kernel)
      (case cdI => k_is)
      (case cls => k_is)
      (case self => k_is)
      (case sup => kernel_rfl)
      (case sB => k_is)
      (case qX => kernel_rfl)
      (case ov => kernel_rfl)
      (case hh => k_is)
      (case sa => k_is)
      (case noOp => k_is)
      (case zS => k_is)
      (case hf => k_is)
      (case fN => k_is)
      (case hg => k_is)
      (case hk => k_is)
      (case hs => k_is)
      (case ha => k_is)
      (case hn => k_is)
      (case ht => k_is)
      (case hm => k_is)
      (case top => decide +kernel)
      (case kind => exact rfl)
      (case co => exact rfl)
      (case gen => exact rfl)
      (case nS => exact rfl)
      (case nC => exact rfl)
      (case nA => exact rfl)
      (case noCell => decide +kernel)
      (case head => exact rfl)
      (case np => decide +kernel)
      (case hpl => exact rfl)
      (case hb1 => intros; exact .of_eq rfl)
      (case hb2 => intros; exact .of_eq rfl)
      (case hev => intro L; exact ⟨_, rfl⟩)
      (case hdp => decide +kernel)
      (case hcp => decide +kernel)
    case r8 =>
      refine' Sg.row_of KX G PySem.F.excBase_ValueError PySem.W.kxs_ValueError PySem.F.store_ValueError ?aC ?kC ?iC ?lk ?tI ?cell ?code ?hvs ?hfile ?cdI ?cls ?self ?sup ?sB ?qX ?ov ?hh ?sa ?noOp ?zS ?hf ?fN ?hg ?hk ?hs ?ha ?hn ?ht ?hm ?top ?kind ?co ?gen ?nS ?nC ?nA ?noCell ?head ?np ?hpl ?hb1 ?hb2 ?hev ?hdp ?hcp
      (case aC => k_is)
      (case kC => k_is)
      (case iC => k_is)
      (case lk => k_is)
      (case tI => k_is)
      (case cell => k_is)
      (case code => k_is)
      (case hvs => exact rfl)
      (case hfile => decide +kernel)
      (case cdI => k_is)
      (case cls => k_is)
      (case self => k_is)
      (case sup => kernel_rfl)
      (case sB => k_is)
      (case qX => kernel_rfl)
      (case ov => kernel_rfl)
      (case hh => k_is)
      (case sa => k_is)
      (case noOp => k_is)
      (case zS => k_is)
      (case hf => k_is)
      (case fN => k_is)
      (case hg => k_is)
      (case hk => k_is)
      (case hs => k_is)
      (case ha => k_is)
      (case hn => k_is)
      (case ht => k_is)
      (case hm => k_is)
      (case top => decide +kernel)
      (case kind => exact rfl)
      (case co => exact rfl)
      (case gen => exact rfl)
      (case nS => exact rfl)
      (case nC => exact rfl)
      (case nA => exact rfl)
      (case noCell => decide +kernel)
      (case head => exact rfl)
      (case np => decide +kernel)
      (case hpl => exact rfl)
      (case hb1 => intros; exact .of_eq rfl)
      (case hb2 => intros; exact .of_eq rfl)
      (case hev => intro L; exact ⟨_, rfl⟩)
      (case hdp => decide +kernel)
      (case hcp => decide +kernel)
    case r9 =>
      refine' Sg.rowN_of KX G PySem.F.excBase_ValueError PySem.W.kxs_ValueError PySem.F.store_ValueError ?aC ?kC ?iC ?lk ?tI ?cell ?code ?hvs ?hfile ?cdI ?cls ?self ?sup ?sB ?qX ?ov ?hh ?sa ?noOp ?zS ?hg ?hk ?hs ?ha ?hn ?ht ?hm ?top ?kind ?co ?gen ?nS ?nC ?nA ?noCell ?head ?hb1 ?hev
      (case aC => k_is)
      (case kC => k_is)
      (case iC => k_is)
      (case lk => k_is)
      (case tI => k_is)
      (case cell => k_is)
      (case code => k_is)
      (case hvs => exact rfl)
      (case hfile => decide +kernel)
      (case cdI => k_is)
      (case cls => k_is)
      (case self => k_is)
      (case sup => kernel_rfl)
      (case sB => k_is)
      (case qX => kernel_rfl)
      (case ov => kernel_rfl)
      (case hh => k_is)
      (case sa => k_is)
      (case noOp => k_is)
      (case zS => k_is)
      (case hg => k_is)
      (case hk => k_is)
      (case hs => k_is)
      (case ha => k_is)
      (case hn => k_is)
      (case ht => k_is)
      (case hm => k_is)
      (case top => decide +kernel)
      (case kind => exact rfl)
      (case co => exact rfl)
      (case gen => exact rfl)
      (case nS => exact rfl)
      (case nC => exact rfl)
      (case nA => exact rfl)
      (case noCell => decide +kernel)
      (case head => exact rfl)
      (case hb1 => intros; exact .of_eq rfl)
      (case hev => intro L; exact ⟨_, rfl⟩)
    case r10 =>
      refine' Sg.rowN_of KX G PySem.F.excBase_ValueError PySem.W.kxs_ValueError PySem.F.store_ValueError ?aC ?kC ?iC ?lk ?tI ?cell ?code ?hvs ?hfile ?cdI ?cls ?self ?sup ?sB ?qX ?ov ?hh ?sa ?noOp ?zS ?hg ?hk ?hs ?ha ?hn ?ht ?hm ?top ?kind ?co ?gen ?nS ?nC ?nA ?noCell ?head ?hb1 ?hev
      (case aC => k_is)
      (case kC => k_is)
      (case iC => k_is)
      (case lk => k_is)
      (case tI => k_is)
      (case cell => k_is)
      (case code => k_is)
      (case hvs => exact rfl)
      (case hfile => decide +kernel)
      (case cdI => k_is)
      (case cls => k_is)
      (case self => k_is)
      (case sup => kernel_rfl)
      (case sB => k_is)
      (case qX => kernel_rfl)
      (case ov => kernel_rfl)
      (case hh => k_is)
      (case sa => k_is)
      (case noOp => k_is)
      (case zS => k_is)
      (case hg => k_is)
      (case hk => k_is)
      (case hs => k_is)
      (case ha => k_is)
      (case hn => k_is)
      (case ht => k_is)
      (case hm => k_is)
      (case top => decide +kernel)
      (case kind => exact rfl)
      (case co => exact rfl)
      (case gen => exact rfl)
      (case nS => exact rfl)
      (case nC => exact rfl)
      (case nA => exact rfl)
      (case noCell => decide +kernel)
      (case head => exact rfl)
      (case hb1 => intros; exact .of_eq rfl)
      (case hev => intro L; exact ⟨_, rfl⟩)
    case r11 =>
      refine' Sg.rowN_of KX G PySem.F.excBase_ValueError PySem.W.kxs_ValueError PySem.F.store_ValueError ?aC ?kC ?iC ?lk ?tI ?cell ?code ?hvs ?hfile ?cdI ?cls ?self ?sup ?sB ?qX ?ov ?hh ?sa ?noOp ?zS ?hg ?hk ?hs ?ha ?hn ?ht ?hm ?top ?kind ?co ?gen ?nS ?nC ?nA ?noCell ?head ?hb1 ?hev
      (case aC => k_is)
      (case kC => k_is)
      (case iC => k_is)
      (case lk => k_is)
      (case tI => k_is)
      (case cell => k_is)
      (case code => k_is)
      (case hvs => exact rfl)
      (case hfile => decide +kernel)
      (case cdI => k_is)
      (case cls => k_is)
      (case self => k_is)
      (case sup => kernel_rfl)
      (case sB => k_is)
      (case qX => kernel_rfl)
      (case ov => kernel_rfl)
      (case hh => k_is)
      (case sa => k_is)
      (case noOp => k_is)
      (case zS => k_is)
      (case hg => k_is)
      (case hk => k_is)
      (case hs => k_is)
      (case ha => k_is)
      (case hn => k_is)
      (case ht => k_is)
      (case hm => k_is)
      (case top => decide +kernel)
      (case kind => exact rfl)
      (case co => exact rfl)
      (case gen => exact rfl)
      (case nS => exact rfl)
      (case nC => exact rfl)
      (case nA => exact rfl)
      (case noCell => decide +kernel)
      (case head => exact rfl)
      (case hb1 => intros; exact .of_eq rfl)
      (case hev => intro L; exact ⟨_, rfl⟩)
    (case aRE => k_is)
    (case wkk => kernel_rfl)
    (case wsub => kernel_rfl)
    (case wnf => kernel_rfl)
    (case wki => kernel_rfl)
    (case tK => kernel_rfl)
    (case tR => kernel_rfl)
    (case tV => kernel_rfl)
    (case tO => kernel_rfl)

