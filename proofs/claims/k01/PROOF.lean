import PyProof.Rows.All
import Wide.All
import OpenK.AllK
import Wide.FinOn
import HandS.ForMost
import HandS.Walk
import HandS.Flow
import HandS.Codes
import HandS.Conv
import HandS.IsInst
import HandS.Zip
import HandS.AnyAll
import HandS.SetFor
import KE.GoesEnum
import KE.DataMinMax
import HandS.SortKw
import HandS.TupSets
import HandS.ExcOwn
import PyProof.ReprRoads
import KE.KExcSuper
import HandS.Exc
import HandS.ExcInit
import HandS.MakeKwOnly
import HandS.ExcValue
import HandS.ExcIs
import HandS.ExcField
import KE.KExcIs
import HandS.TryOnly
import KE.KTryMore
import HandS.TupAny
import HandS.WordsExc
import HandS.Strs
import HandS.TupLe
import HandS.DictComp
import HandS.Style
import HandS.Lambda
import HandS.SlotsOwn
import PySem.Challenge.RW_samerounds_k01_webs_made
set_option Elab.async false
set_option linter.all false
set_option maxRecDepth 100000
set_option maxHeartbeats 16000000
namespace Sg
open PySem PySem.Spec PyProof.Rows L2
def topS (i : Nat) : Stmt := PySem.Challenge.pw_samerounds_k01_webs_made.main.body.getD i (.Pass ⟨0, 0, 0, 0⟩)
abbrev sMixed : Stmt := topS 19
abbrev sFolded : Stmt := topS 20
abbrev sDraw : Stmt := topS 21
abbrev sBegun : Stmt := topS 22

/-! ### small words on heaps -/
theorem same_new {H : Hp} {p : Addr} {o : HO} (h : H p = none) : Same H (upd H p o) := fun b x e => by
  rw [upd_ne (ne_of_none e h)]; exact e

theorem ite_ff {A B : Prop} (h : B) : if false = true then A else B := by rw [if_neg (by simp)]; exact h
theorem ite_tt {A B : Prop} (h : A) : if true = true then A else B := by rw [if_pos rfl]; exact h
theorem tyes_ite {σ : L2.St} {H : Hp} {A B : Hp → Prop} (h : A H) : tYes σ H (fun b H3 => if b = true then A H3 else B H3) := by
  show if true = true then A H else B H
  rw [if_pos rfl]
  exact h
section
variable {P : Program} {w : World} {K : PySem.W.Frag} {mg : Str → Option Value} {base : Heap}
/-! ### _law_mixed -/
def spMixed : Sp := fun vs H Q _ => ∃ (c n : Int), vs = [.int c, .int n] ∧ 0 ≤ n ∧ n < 1000000000 ∧ ∀ r : Int, 0 ≤ r → r < 1000000000 → Q (.int r) H
theorem scMixed : FnScope ["cell", "n", "blend"] ["cell", "n"] (defScope sMixed) := ⟨rfl, rfl, rfl, by decide +kernel, rfl, by decide +kernel, by decide +kernel⟩
theorem ok_mixed {f : Addr} {fd : FuncData} (F : Fun K "_law_mixed" "_law_mixed" sMixed f fd) (mi : mg "int" = none) : FnOk P w K mg base CX0 1 f fd ["cell", "n"] spMixed := by
  refine F.ok scMixed (fun vs H Q E h => ?_) (fun cdv A outer s H vs Q E hr h => ?_)
  · obtain ⟨c, n, rfl, _⟩ := h
    rfl
  · obtain ⟨c, n, rfl, n0, n1, q⟩ := h
    refine ⟨_, pss_cons (ps_set (i := 2) scMixed.nd rfl (.inl rfl)
        (pe_op op_add (pe_op op_add (pe_op op_mod (pe_callTy call_int1 (by rfl) mi (by decide +kernel) (pa_cons (pe_op op_mul (pe_op op_mul (pv 0) (pe_op op_add pe_int (pe_op op_mul pe_int (pv 1)))) pe_int) pa_nil)) pe_int)
          (pe_op op_mul (pe_op op_mul pe_int (pv 1)) (pv 1))) (pe_op op_mul pe_int (pv 1))))
      (pss_one (ps_ret (pe_op op_fdiv (pe_op op_mod (pe_callTy call_int1 (by rfl) mi (by decide +kernel) (pa_cons (pe_op op_mul (pv 2) pe_int) pa_nil)) pe_int) pe_int))), ?_⟩
    refine ⟨_, rfl, _, rfl, _, _, rfl, rfl, .inl ⟨by decide, by decide⟩, _, _, rfl, rfl, _, _, rfl, rfl, .inr ⟨by omega, by omega⟩, _, _, rfl, rfl, .inr ⟨by decide, by decide⟩, .inl ⟨_, rfl, ?_⟩⟩
    refine ⟨_, _, rfl, rfl, (by show (0 : Int) < 2147483647; decide), ?_⟩
    refine ⟨_, rfl, _, _, rfl, rfl, .inl ⟨by decide, by decide⟩, _, rfl, _, _, rfl, rfl, .inr ⟨by omega, by omega⟩, _, _, rfl, rfl, ?_⟩
    refine ⟨_, rfl, _, _, rfl, rfl, .inl ⟨by decide, by decide⟩, _, _, rfl, rfl, ?_⟩
    refine ⟨_, rfl, _, _, rfl, rfl, .inr ⟨by decide, by decide⟩, .inl ⟨_, rfl, ?_⟩⟩
    refine ⟨_, _, rfl, rfl, (by show (0 : Int) < 2147483629; decide), _, _, rfl, rfl, ⟨by decide, by decide⟩, ?_⟩
    exact q _ (by omega) (by omega)
/-! ### _law_folded -/
def Cells (cs : List Int) : Prop := cs.length = 64 ∧ ∀ c ∈ cs, 0 ≤ c ∧ c < 2147483647
theorem Cells.get {cs : List Int} (h : Cells cs) {i : Nat} (hi : i < 64) : ∃ c : Int, cs[i]? = some c ∧ 0 ≤ c ∧ c < 2147483647 := by
  have hl : i < cs.length := by rw [h.1]; exact hi
  exact ⟨cs[i], List.getElem?_eq_getElem hl, h.2 _ (List.getElem_mem hl)⟩
theorem Cells.set {cs : List Int} (h : Cells cs) (i : Nat) {c : Int} (h0 : 0 ≤ c) (h1 : c < 2147483647) : Cells (cs.set i c) := by
  refine ⟨by rw [List.length_set]; exact h.1, fun x hx => ?_⟩
  rcases List.mem_or_eq_of_mem_set hx with q | q
  · exact h.2 x q
  · rw [q]; exact ⟨h0, h1⟩
theorem map_get {cs : List Int} {i : Nat} {c : Int} (h : cs[i]? = some c) : (cs.map V.int)[i]? = some (V.int c) := by
  rw [List.getElem?_map, h]; rfl
theorem ixN_nat {n i : Nat} (h : i < n) : ixN n (i : Int) = some i := by
  unfold ixN
  first | (simp [h]; done) | (simp; omega) | (split <;> simp_all <;> omega)
def spFolded (K : PySem.W.Frag) : Sp := fun vs H Q _ => ∃ (a : Addr) (ns : List Int), vs = [.ref a] ∧ SqL K H a (ns.map V.int) ∧ ns.length ≤ 63 ∧
  ∀ H' p cs, Same H H' → H p = none → H' p = some (.lst (cs.map V.int)) → Cells cs → Q (.ref p) H'
theorem scFolded : FnScope ["script", "found", "n", "cell"] ["script"] (defScope sFolded) := ⟨rfl, rfl, rfl, by decide +kernel, rfl, by decide +kernel, by decide +kernel⟩
theorem ok_folded {f : Addr} {fd : FuncData} (F : Fun K "_law_folded" "_law_folded" sFolded f fd) (mi : mg "int" = none) (mr : mg "range" = none) (me : mg "enumerate" = none) : FnOk P w K mg base CX0 1 f fd ["script"] (spFolded K) := by
  refine F.ok scFolded (fun vs H Q E h => ?_) (fun cdv A outer s H vs Q E hr h => ?_)
  · obtain ⟨a, ns, rfl, _⟩ := h
    rfl
  · obtain ⟨a, ns, rfl, hS, hl, q⟩ := h
    refine ⟨_, pss_cons (ps_setLc (i := 1) (own := [("n", 2)]) (g := gName 2) (tt := tYes) rfl scFolded.nd rfl rfl (sw_true rfl rfl rfl (by decide +kernel)) (pi_range1 rfl mr (pa_cons pe_int pa_nil))
        (blkOk_by (own := [("n", 2)]) (N := ["script", "found", "n", "cell"]) (sc := defScope sFolded) (by decide +kernel)) (fun _ _ _ _ _ => pg_name (i := 2) scFolded.nd rfl (Or.inl rfl)) (fun _ _ _ _ _ => pts_nil) (fun _ _ _ _ _ => pe_op op_add pe_int (pv 2)))
      (pss_cons (ps_for PassesOwn.never rfl (pi_enum (by rfl) me (pa_cons (pv 0) pa_nil)) (pg_tup rfl (pgs_cons (pg_name (i := 2) scFolded.nd rfl (.inl rfl)) (pgs_cons (pg_name (i := 3) scFolded.nd rfl (.inl rfl)) pgs_nil)))
        (pss_one (ps_asg (pe_op op_mod (pe_callTy call_int1 (by rfl) mi (by decide +kernel) (pa_cons (pe_op op_add (pe_op op_mul (pe_ix ix_list (pv 1) (pe_op op_mod (pe_callTy call_int1 (by rfl) mi (by decide +kernel) (pa_cons (pv 2) pa_nil)) pe_int) (fun _ _ => rfl)) pe_int) (pv 3)) pa_nil)) pe_int)
          (pg_sub (pv 1) (pe_op op_mod (pe_callTy call_int1 (by rfl) mi (by decide +kernel) (pa_cons (pv 2) pa_nil)) pe_int) set_list))))
      (pss_cons (ps_for PassesOwn.never rfl (pi_range2 (by rfl) mr (pa_cons pe_int (pa_cons pe_int pa_nil))) (pg_name (i := 2) scFolded.nd rfl (.inl rfl))
        (pss_one (ps_asg (pe_op op_mod (pe_callTy call_int1 (by rfl) mi (by decide +kernel) (pa_cons (pe_op op_add (pe_ix ix_list (pv 1) (pv 2) (fun _ _ => rfl)) (pe_op op_mul (pe_ix ix_list (pv 1) (pe_op op_sub (pv 2) pe_int) (fun _ _ => rfl)) pe_int)) pa_nil)) pe_int)
          (pg_sub (pv 1) (pv 2) set_list))))
      (pss_one (ps_ret (pv 1))))), ?_⟩
    -- found = [17 + n for n in range(64)]
    refine ⟨64, rfl, by decide, by decide, fun D hD => ?_⟩
    refine lc_range (lo := 0) (n := 64) (fun i H' => Same H H' ∧ ∃ cs : List Int, cs.length = i ∧ H' D = some (.lst (cs.map V.int)) ∧ ∀ c ∈ cs, 0 ≤ c ∧ c < 2147483647) ⟨same_new hD, [], rfl, upd_same, fun _ z => nomatch z⟩ (fun i H1 hi hp => ?_) (fun H1 hp => ?_)
    · obtain ⟨sm, cs, el, eD, hc⟩ := hp
      refine ⟨rfl, ?_⟩
      refine tyes_ite ?_
      refine ⟨_, rfl, _, _, rfl, rfl, _, eD, ?_, ?_, cs ++ [17 + (0 + (i : Int))], by simp [el], ?_, fun c hc' => ?_⟩
      · rw [List.length_map, el]; exact small1000 (by omega)
      · intro b o e
        rw [upd_ne (ne_of_none e hD)]
        exact sm b o e
      · rw [upd_same, List.map_append]; rfl
      · rcases List.mem_append.mp hc' with z | z
        · exact hc c z
        · rw [List.mem_singleton.mp z]; omega
    obtain ⟨sm, cs, el, eD, hc⟩ := hp
    have C0 : Cells cs := ⟨el, hc⟩
    clear hc el
    -- for n, cell in enumerate(script)
    refine ⟨_, rfl, a, ns.map V.int, rfl, sm.seq hS, ?_⟩
    refine for_it (walk_enum (xs := ns.map V.int)) (fun i σ H' => ∃ y2 y3 cs, σ = [some (.ref a), some (.ref D), y2, y3] ∧ Same H H' ∧ H' D = some (.lst (cs.map V.int)) ∧ Cells cs) ⟨_, _, cs, rfl, sm, eD, C0⟩ (fun i σ H' _ hp => ?_) (fun i x σ H2 H3 hi hp hy => ?_) (fun σ H2 hp => ?_)
    · obtain ⟨_, _, _, _, s2, _⟩ := hp
      exact s2.seq hS
    · obtain ⟨y2, y3, cs, rfl, s2, e2, C2⟩ := hp
      obtain ⟨T, x1, x2, rfl, nT, rfl, f1, f2⟩ := hy
      cases f1
      have f2 : (ns.map V.int)[i]? = some x2 := f2
      obtain ⟨u, rfl⟩ : ∃ u, x2 = V.int u := by
        rw [List.getElem?_map] at f2
        cases e : ns[i]? with
        | none => rw [e] at f2; cases f2
        | some u => rw [e] at f2; exact ⟨u, (Option.some.inj f2).symm⟩
      have nTD : D ≠ T := ne_of_none e2 nT
      have hi' : i < 63 := by rw [List.length_map] at hi; omega
      have e3 : (upd H2 T (.tup [.int (i : Nat), .int u])) D = some (.lst (cs.map V.int)) := by rw [upd_ne nTD]; exact e2
      have em : ((i : Nat) : Int) % 64 = ((i : Nat) : Int) := Int.emod_eq_of_lt (by omega) (by omega)
      obtain ⟨c, gc, c0, c1⟩ := C2.get (i := i) (by omega)
      refine ⟨T, _, rfl, .inl (.inl upd_same), rfl, _, _, rfl, _, _, rfl, rfl, ?_⟩
      refine ⟨_, rfl, _, rfl, .inl ⟨_, rfl, ?_⟩⟩
      refine ⟨_, _, rfl, rfl, (by show (0 : Int) < 64; decide), ?_⟩
      refine ⟨D, _, _, .int c, rfl, rfl, SqL.of e3, (by rw [em]; exact atI_nat (map_get gc)), _, _, rfl, rfl, .inr ⟨by decide, by decide⟩, ?_⟩
      refine ⟨_, rfl, _, _, rfl, rfl, .inl ⟨_, rfl, ?_⟩⟩
      refine ⟨_, _, rfl, rfl, (by show (0 : Int) < 2147483647; decide), ?_⟩
      refine ⟨_, rfl, _, rfl, .inl ⟨_, rfl, ?_⟩⟩
      refine ⟨_, _, rfl, rfl, (by show (0 : Int) < 64; decide), ?_⟩
      refine ⟨D, _, _, i, rfl, rfl, e3, (by rw [em, List.length_map, C2.1]; exact ixN_nat (by omega)), ?_⟩
      refine ⟨_, _, cs.set i ((c * 48271 + u) % 2147483647), rfl, fun b o e => ?_, ?_, C2.set i (by omega) (by omega)⟩
      · have nb : b ≠ D := ne_of_none e hD
        rw [upd_ne nb, upd_ne (ne_of_none (s2 _ _ e) nT)]
        exact s2 _ _ e
      · rw [upd_same, List.map_set]
    obtain ⟨y2, y3, cs, rfl, s2, e2, C2⟩ := hp
    -- for n in range(1, 64)
    refine ⟨1, 64, rfl, ⟨by decide, by decide, by decide, by decide⟩, ?_⟩
    refine for_range (lo := 1) (n := 63) (fun i σ H' => ∃ y2 y3 cs, σ = [some (.ref a), some (.ref D), y2, y3] ∧ Same H H' ∧ H' D = some (.lst (cs.map V.int)) ∧ Cells cs) ⟨_, _, cs, rfl, s2, e2, C2⟩ (fun i σ H3 hi hp => ?_) (fun σ H3 hp => ?_)
    · obtain ⟨y2, y3, cs, rfl, s3, e3, C3⟩ := hp
      obtain ⟨c, gc, c0, c1⟩ := C3.get (i := i + 1) (by omega)
      obtain ⟨d, gd, d0, d1⟩ := C3.get (i := i) (by omega)
      have ei : (1 + (i : Int)) = ((i + 1 : Nat) : Int) := by omega
      have ej : (1 + (i : Int)) - 1 = ((i : Nat) : Int) := by omega
      refine ⟨_, rfl, _, rfl, D, _, _, .int c, rfl, rfl, SqL.of e3, (by rw [ei]; exact atI_nat (map_get gc)), ?_⟩
      refine ⟨_, rfl, _, rfl, _, _, rfl, rfl, D, _, _, .int d, rfl, rfl, SqL.of e3, (by rw [ej]; exact atI_nat (map_get gd)), _, _, rfl, rfl, .inr ⟨by decide, by decide⟩, _, _, rfl, rfl, .inl ⟨_, rfl, ?_⟩⟩
      refine ⟨_, _, rfl, rfl, (by show (0 : Int) < 2147483647; decide), ?_⟩
      refine ⟨_, rfl, _, rfl, D, _, _, i + 1, rfl, rfl, e3, (by rw [ei, List.length_map, C3.1]; exact ixN_nat (by omega)), ?_⟩
      refine ⟨_, _, cs.set (i + 1) ((c + d * 16807) % 2147483647), rfl, fun b o e => ?_, ?_, C3.set _ (by omega) (by omega)⟩
      · rw [upd_ne (ne_of_none e hD)]
        exact s3 _ _ e
      · rw [upd_same, List.map_set]
    obtain ⟨y2, y3, cs, rfl, s3, e3, C3⟩ := hp
    exact ⟨_, rfl, q _ _ cs s3 hD e3 C3⟩
/-! ### _law_begun: the draws' state -/
abbrev kC : Key := Sum.inr "cells"
abbrev kG : Key := Sum.inr "great"
abbrev kS : Key := Sum.inr "spot"
theorem nCG : ¬ kC = kG := by decide +kernel
theorem nCS : ¬ kC = kS := by decide +kernel
theorem nGS : ¬ kG = kS := by decide +kernel
def kvM (c g : Addr) (k : Int) : List (Key × V) := [(kC, .ref c), (kG, .ref g), (kS, .int k)]
theorem kvM_c {c g : Addr} {k : Int} : valV (kvM c g k) kC = some (.ref c) := valV_pos rfl
theorem kvM_g {c g : Addr} {k : Int} : valV (kvM c g k) kG = some (.ref g) := (valV_neg (p := (kC, V.ref c)) nCG).trans (valV_pos rfl)
theorem kvM_s {c g : Addr} {k : Int} : valV (kvM c g k) kS = some (.int k) := (valV_neg (p := (kC, V.ref c)) nCS).trans ((valV_neg (p := (kG, V.ref g)) nGS).trans (valV_pos rfl))
theorem kvM_putS {c g : Addr} {k j : Int} : putK (kvM c g k) kS (.int j) = kvM c g j := by
  unfold putK
  rw [if_pos (by simp [kvM])]
  simp only [kvM, List.map_cons, List.map_nil, if_neg nCS, if_neg nGS, if_true]
theorem kvM_putG {c g h : Addr} {k : Int} : putK (kvM c g k) kG (.ref h) = kvM c h k := by
  unfold putK
  rw [if_pos (by simp [kvM])]
  simp only [kvM, List.map_cons, List.map_nil, if_neg nCG, if_neg (Ne.symm nGS), if_true]
theorem kvM_make {c g : Addr} {k : Int} : mergeK [] [(kC, V.ref c), (kG, V.ref g), (kS, V.int k)] = kvM c g k := by
  show putK (putK (putK [] kC (V.ref c)) kG (V.ref g)) kS (V.int k) = kvM c g k
  rw [putK_new (kvs := []) _ rfl, putK_new (kvs := [] ++ [(kC, V.ref c)]) _ (by rw [List.nil_append, valV_neg (p := (kC, V.ref c)) nCG]; rfl), putK_new _ (by
    rw [List.nil_append, List.singleton_append, valV_neg (p := (kC, V.ref c)) nCS, valV_neg (p := (kG, V.ref g)) nGS]; rfl)]
  rfl
/-- the draws' state: m the dict, g its list of great cells; k the next draw's number -/
def MSt (H : Hp) (m g c : Addr) (k : Int) : Prop := 0 ≤ k ∧ ∃ (cs gs : List Int), H m = some (.dK (kvM c g k)) ∧ H c = some (.lst (cs.map V.int)) ∧ H g = some (.lst (gs.map V.int)) ∧ Cells cs ∧ gs.length ≤ 63
/-- all but the draws' state is as it was -/
def But (m g : Addr) (H H' : Hp) : Prop := ∀ b o, H b = some o → b ≠ m → b ≠ g → H' b = some o
theorem But.refl {m g : Addr} {H : Hp} : But m g H H := fun _ _ e _ _ => e
theorem But.trans {m g : Addr} {H H1 H2 : Hp} (a : But m g H H1) (b : But m g H1 H2) : But m g H H2 := fun c o e h1 h2 => b c o (a c o e h1 h2) h1 h2
theorem But.of {m g : Addr} {H H1 : Hp} (a : Same H H1) : But m g H H1 := fun c o e _ _ => a c o e
/-- other objects are made, others are changed -/
theorem MSt.keep {H H' : Hp} {m g c : Addr} {k : Int} (M : MSt H m g c k) (h : ∀ b o, H b = some o → (∃ kvs, o = .dK kvs) ∨ (∃ xs, o = .lst xs) → H' b = some o) : MSt H' m g c k := by
  obtain ⟨k0, cs, gs, h1, h2, h3, C, gl⟩ := M
  exact ⟨k0, cs, gs, h _ _ h1 (.inl ⟨_, rfl⟩), h _ _ h2 (.inr ⟨_, rfl⟩), h _ _ h3 (.inr ⟨_, rfl⟩), C, gl⟩
/-- an address that the state does not use -/
structure Off (m g c p : Addr) : Prop where
  m : p ≠ m
  g : p ≠ g
  c : p ≠ c
theorem MSt.off {H : Hp} {m g c p : Addr} {k : Int} (M : MSt H m g c k) (n : H p = none) : Off m g c p := by
  obtain ⟨k0, cs, gs, h1, h2, h3, _⟩ := M
  exact ⟨(ne_of_none h1 n).symm, (ne_of_none h3 n).symm, (ne_of_none h2 n).symm⟩
theorem MSt.upd {H : Hp} {m g c p : Addr} {k : Int} {o : HO} (M : MSt H m g c k) (n : Off m g c p) : MSt (upd H p o) m g c k := by
  obtain ⟨k0, cs, gs, h1, h2, h3, C, gl⟩ := M
  exact ⟨k0, cs, gs, by rw [upd_ne n.m.symm]; exact h1, by rw [upd_ne n.c.symm]; exact h2, by rw [upd_ne n.g.symm]; exact h3, C, gl⟩
theorem MSt.pos {H : Hp} {m g c : Addr} {k : Int} (M : MSt H m g c k) : 0 ≤ k := M.1
theorem MSt.same {H H' : Hp} {m g c : Addr} {k : Int} (M : MSt H m g c k) (h : Same H H') : MSt H' m g c k := M.keep fun b o e _ => h b o e
def spBegun (K : PySem.W.Frag) : Sp := fun vs H Q _ => ∃ (a : Addr) (ns : List Int), vs = [.ref a] ∧ SqL K H a (ns.map V.int) ∧ ns.length ≤ 63 ∧
  ∀ H' m g c, Same H H' → H m = none → H g = none → H c = none → MSt H' m g c 0 → Q (.ref m) H'
theorem scBegun : FnScope ["script", "m", "cell"] ["script"] (defScope sBegun) := ⟨rfl, rfl, rfl, by decide +kernel, rfl, by decide +kernel, by decide +kernel⟩
theorem ok_begun {f fF : Addr} {fd fdF : FuncData} (F : Fun K "_law_begun" "_law_begun" sBegun f fd) (GF : FnOk P w K mg base CX0 1 fF fdF ["script"] (spFolded K)) (gF : mg "_law_folded" = some (.ref fF)) (kF : PySem.W.keepIn K (.ref fF) = true) (bF : Binds K fdF ["script"] []) :
    FnOk P w K mg base CX0 2 f fd ["script"] (spBegun K) := by
  refine F.ok scBegun (fun vs H Q E h => ?_) (fun cdv A outer s H vs Q E hr h => ?_)
  · obtain ⟨a, ns, rfl, _⟩ := h
    rfl
  · obtain ⟨a, ns, rfl, hS, hl, q⟩ := h
    have hu := hu_of hr
    refine ⟨_, pss_cons (ps_set (i := 1) scBegun.nd rfl (.inl rfl) (pe_disp (pps_cons pe_str (pe_call GF hr (by rfl) gF kF bF .nil pass0 (pa_cons (pv 0) pa_nil)) (pps_cons pe_str (pe_lst pa_nil) (pps_cons pe_str pe_int pps_nil))) (by rfl) (by rfl) (fun z => by cases z) (by decide)))
      (pss_cons (ps_dput hu (pv 1) pe_str (pe_lc (own := [("cell", 2)]) (g := gName 2) (tt := tYes) (by rfl) scBegun.nd (pi_list (pv 0)) (blkOk_by (own := [("cell", 2)]) (N := ["script", "m", "cell"]) (sc := defScope sBegun) (by decide +kernel))
          (fun _ _ _ _ _ => pg_name (i := 2) scBegun.nd rfl (Or.inl rfl)) (fun _ _ _ _ _ => pts_nil) (fun _ _ _ _ _ => pe_ifExp (pt_cmpR op_ge (pv 2) (pe_op op_pow pe_int pe_int) (nomark _)) (pv 2) pe_int)) rfl)
      (pss_one (ps_ret (pv 1)))), ?_⟩
    -- the display
    intro m nm
    have s1 : Same H (upd H m (.dK [])) := same_new nm
    refine ⟨_, rfl, a, ns, rfl, s1.seq hS, hl, fun H1 c cs s2 nc e1 C => ?_⟩
    refine ⟨Nat.zero_le _, fun g0 ng0 => ?_⟩
    have hm1 : H1 m = some (.dK []) := s2 _ _ upd_same
    have nmg : m ≠ g0 := ne_of_none hm1 ng0
    refine ⟨(by rw [upd_ne nmg]; exact hm1), [(kC, .ref c), (kG, .ref g0), (kS, .int 0)], rfl, (by show 3 ≤ 15; decide), ?_⟩
    rw [kvM_make]
    have nmc : m ≠ c := fun z => by rw [z, e1] at hm1; cases hm1
    have ncg0 : c ≠ g0 := ne_of_none e1 ng0
    have s3 : Same H (upd (upd H1 g0 (.lst [])) m (.dK (kvM c g0 0))) := fun b o e => by
      rw [upd_ne (ne_of_none e nm), upd_ne (ne_of_none (s2 _ _ (s1 _ _ e)) ng0)]
      exact s2 _ _ (s1 _ _ e)
    generalize hH2 : upd (upd H1 g0 (.lst [])) m (.dK (kvM c g0 0)) = H2 at s3 ⊢
    have em : H2 m = some (.dK (kvM c g0 0)) := by rw [← hH2]; exact upd_same
    have ec : H2 c = some (.lst (cs.map V.int)) := by rw [← hH2, upd_ne nmc.symm, upd_ne ncg0]; exact e1
    -- the comprehension
    refine ⟨_, rfl, a, rfl, ⟨_, s3.seq hS⟩, fun g ng => ?_⟩
    have ngm : m ≠ g := ne_of_none em ng
    have ngc : c ≠ g := ne_of_none ec ng
    have n0g : H g = none := s3.free ng
    refine lc_list (K := K) (a := a) (xs := ns.map V.int) (fun i H' => Same H2 H' ∧ ∃ gs : List Int, gs.length = i ∧ H' g = some (.lst (gs.map V.int))) ⟨same_new ng, [], rfl, upd_same⟩ (fun i H' _ hp => hp.1.seq (s3.seq hS)) (fun i x H' hx hp => ?_) (fun H' hp => ?_)
    · obtain ⟨sm, gs, el, eg⟩ := hp
      obtain ⟨u, rfl⟩ : ∃ u, x = V.int u := by
        rw [List.getElem?_map] at hx
        cases e : ns[i]? with
        | none => rw [e] at hx; cases hx
        | some u => rw [e] at hx; exact ⟨u, (Option.some.inj hx).symm⟩
      have hi : i < ns.length := by
        have := (List.getElem?_eq_some_iff.mp hx).1
        rw [List.length_map] at this
        exact this
      have fin : ∀ z : Int, ∃ acc, H' g = some (.lst acc) ∧ acc.length < sizeLine ∧ Same H2 (upd H' g (.lst (acc ++ [V.int z]))) ∧ ∃ gs : List Int, gs.length = i + 1 ∧ (upd H' g (.lst (acc ++ [V.int z]))) g = some (.lst (gs.map V.int)) := fun z =>
        ⟨_, eg, by rw [List.length_map, el]; exact small1000 (by omega), fun b o e => by rw [upd_ne (ne_of_none e ng)]; exact sm _ _ e, gs ++ [z], by simp [el], by rw [upd_same, List.map_append]; rfl⟩
      refine ⟨rfl, ?_⟩
      refine tyes_ite ?_
      refine ⟨_, rfl, _, _, rfl, rfl, ⟨by decide, by decide, by decide⟩, _, _, rfl, rfl, _, rfl, ite2 (fun _ => ?_) (fun _ => ?_)⟩
      · exact ⟨_, rfl, fin u⟩
      · exact fin 0
    · obtain ⟨sm, gs, el, eg⟩ := hp
      refine ⟨_, rfl, _, _, rfl, DPut.k (k := kG) (sm _ _ em) (by show 3 < sizeLine; decide), ?_⟩
      rw [kvM_putG]
      refine ⟨_, rfl, q _ m g c (fun b o e => ?_) nm n0g (s1.free nc) ⟨by decide, cs, gs, upd_same, ?_, ?_, C, ?_⟩⟩
      · rw [upd_ne (ne_of_none e nm)]
        exact sm _ _ (s3 _ _ e)
      · rw [upd_ne nmc.symm]; exact sm _ _ ec
      · rw [upd_ne ngm.symm]; exact eg
      · rw [List.length_map] at el; omega
/-! ### _law_draw -/
theorem dpAll_ints {H : Hp} : ∀ gs : List Int, DpAll K H (gs.map V.int) (gs.map PyData.int)
  | [] => .nil
  | i :: r => .cons (.int i) (dpAll_ints r)
theorem canLay_ints : ∀ gs : List Int, PyData.canLayAll0 (gs.map PyData.int) = true
  | [] => rfl
  | _ :: r => by
    show (true && PyData.canLayAll0 (r.map PyData.int)) = true
    rw [canLay_ints r]; rfl
theorem depth_ints : ∀ gs : List Int, PyData.depthAll (gs.map PyData.int) = 0
  | [] => rfl
  | _ :: r => by
    show max 0 (PyData.depthAll (r.map PyData.int)) = 0
    rw [depth_ints r]; rfl
theorem shaped_ints (gs : List Int) : SeqAt.shaped (.list (gs.map PyData.int)) = true := by
  show (PyData.canLayAll0 (gs.map PyData.int) && decide (PyData.depthAll (gs.map PyData.int) + 1 ≤ 64)) = true
  rw [canLay_ints, depth_ints]; rfl
def spDraw : Sp := fun vs H Q _ => ∃ (m g c : Addr) (k l : Int), vs = [.ref m, .int l] ∧ MSt H m g c k ∧ k < 1000000 ∧ 1 ≤ l ∧ l < 1000000000 ∧
  ∀ (r : Int) H', 0 ≤ r → r < l → MSt H' m g c (k + 1) → But m g H H' → Q (.int r) H'
theorem scDraw : FnScope ["m", "limit", "n", "lot", "here", "cell"] ["m", "limit"] (defScope sDraw) := ⟨rfl, rfl, rfl, by decide +kernel, rfl, by decide +kernel, by decide +kernel⟩
theorem ok_draw {f fF : Addr} {fd fdF : FuncData} (F : Fun K "_law_draw" "_law_draw" sDraw f fd) (GF : FnOk P w K mg base CX0 1 fF fdF ["cell", "n"] spMixed) (gF : mg "_law_mixed" = some (.ref fF)) (kF : PySem.W.keepIn K (.ref fF) = true) (bF : Binds K fdF ["cell", "n"] [])
    (mi : mg "int" = none) (ml : mg "len" = none) : FnOk P w K mg base CX0 2 f fd ["m", "limit"] spDraw := by
  refine F.ok scDraw (fun vs H Q E h => ?_) (fun cdv A outer s H vs Q E hr h => ?_)
  · obtain ⟨m, g, c, k, l, rfl, _⟩ := h
    rfl
  · obtain ⟨m, g, c, k, l, rfl, ⟨k0, cs, gs, h1, h2, h3, C, gl⟩, k1, l0, l1, q⟩ := h
    have hu := hu_of hr
    refine ⟨_, pss_cons (ps_set (i := 2) scDraw.nd rfl (.inl rfl) (pe_dget hu (pv 0) pe_str (fun _ _ => rfl)))
      (pss_cons (ps_dput hu (pv 0) pe_str (pe_op op_add (pv 2) pe_int) rfl)
      (C8.pss_cut (ps_if (pt_cmpR (op_neD hr.units) (pe_dget hu (pv 0) pe_str (fun _ _ => rfl)) (pe_lst pa_nil) (nomark _))
        (pss_cons (ps_set (i := 3) scDraw.nd rfl (.inl rfl) (pe_dget hu (pv 0) pe_str (fun _ _ => rfl)))
        (pss_cons (ps_set (i := 4) scDraw.nd rfl (.inl rfl) (pe_op op_mod (pe_callTy call_int1 (by rfl) mi (by decide +kernel) (pa_cons (pv 2) pa_nil)) (pe_callB call_len_seq (by rfl) ml PySem.boot_len (pa_cons (pv 3) pa_nil))))
        (pss_cons (ps_set (i := 5) scDraw.nd rfl (.inl rfl) (pe_ix ix_list (pv 3) (pv 4) (fun _ _ => rfl)))
        (pss_one (ps_if (pt_cmpR op_gt (pv 5) pe_int (nomark _))
          (pss_cons (ps_asg (pe_op op_fdivN (pv 5) (pv 1)) (pg_sub (pv 3) (pv 4) set_list))
          (pss_one (ps_ret (pe_op op_mod (pe_callTy call_int1 (by rfl) mi (by decide +kernel) (pa_cons (pv 5) pa_nil)) (pv 1))))) pss_nil))))) pss_nil)
      (pss_cons (ps_set (i := 3) scDraw.nd rfl (.inl rfl) (pe_dget hu (pv 0) pe_str (fun _ _ => rfl)))
      (pss_one (ps_ret (pe_op op_mod (pe_callTy call_int1 (by rfl) mi (by decide +kernel) (pa_cons (pe_call GF hr (by rfl) gF kF bF .nil pass0
        (pa_cons (pe_call GF hr (by rfl) gF kF bF .nil pass0 (pa_cons (pe_op op_add (pe_ix ix_list (pv 3) (pe_op op_mod (pe_callTy call_int1 (by rfl) mi (by decide +kernel) (pa_cons (pv 2) pa_nil)) pe_int) (fun _ _ => rfl)) (pe_op op_mul pe_int (pe_op op_fdiv (pv 2) pe_int))) (pa_cons (pv 2) pa_nil)))
          (pa_cons (pe_op op_add (pv 2) pe_int) pa_nil))) pa_nil)) (pv 1))))))), ?_⟩
    have ncm : c ≠ m := fun z => by rw [z, h1] at h2; cases h2
    have ngm : g ≠ m := fun z => by rw [z, h1] at h3; cases h3
    have ncg : c ≠ g := fun z => by
      rw [z, h3] at h2
      have y : gs.map V.int = cs.map V.int := by injection (Option.some.inj h2)
      have y2 := congrArg List.length y
      rw [List.length_map, List.length_map, C.1] at y2
      omega
    -- n = m['spot']; m['spot'] = n + 1
    refine ⟨_, rfl, m, _, rfl, (by rw [← kvM_s (c := c) (g := g) (k := k)]; exact DGet.k (k := kS) h1), ?_⟩
    refine ⟨_, rfl, _, _, rfl, rfl, _, rfl, m, _, rfl, DPut.k (k := kS) h1 (by show 3 < sizeLine; decide), ?_⟩
    rw [kvM_putS]
    generalize hH1 : upd H m (.dK (kvM c g (k + 1))) = H1
    have a1 : H1 m = some (.dK (kvM c g (k + 1))) := by rw [← hH1]; exact upd_same
    have a2 : H1 c = some (.lst (cs.map V.int)) := by rw [← hH1, upd_ne ncm]; exact h2
    have a3 : H1 g = some (.lst (gs.map V.int)) := by rw [← hH1, upd_ne ngm]; exact h3
    have a4 : But m g H H1 := fun b o e n1 _ => by rw [← hH1, upd_ne n1]; exact e
    -- if m['great'] != []:
    refine ⟨fun σ H' => ∃ y3 y4 y5, σ = [some (.ref m), some (.int l), some (.int k), y3, y4, y5] ∧ (H' m = some (.dK (kvM c g (k + 1))) ∧ H' c = some (.lst (cs.map V.int)) ∧ H' g = some (.lst (gs.map V.int))) ∧ Same H1 H', ?_, ?_⟩
    · refine ⟨_, rfl, m, _, rfl, (by rw [← kvM_g (c := c) (g := g) (k := k + 1)]; exact DGet.k (k := kG) a1), Nat.zero_le _, fun p np => ?_⟩
      have s2 : Same H1 (upd H1 p (.lst [])) := same_new np
      generalize hH2 : upd H1 p (.lst []) = H2 at s2 ⊢
      have ep : H2 p = some (.lst []) := by rw [← hH2]; exact upd_same
      refine ⟨.list (gs.map PyData.int), .list [], .lst (SqL.of (s2 _ _ a3)) (dpAll_ints gs), .lst (SqL.of ep) .nil, shaped_ints gs, rfl, _, rfl, ?_⟩
      have out : ∀ y3 y4 y5 : Option V, ∃ z3 z4 z5, [some (V.ref m), some (.int l), some (.int k), y3, y4, y5] = [some (V.ref m), some (.int l), some (.int k), z3, z4, z5] ∧ (H2 m = some (.dK (kvM c g (k + 1))) ∧ H2 c = some (.lst (cs.map V.int)) ∧ H2 g = some (.lst (gs.map V.int))) ∧ Same H1 H2 :=
        fun y3 y4 y5 => ⟨y3, y4, y5, rfl, ⟨s2 _ _ a1, s2 _ _ a2, s2 _ _ a3⟩, s2⟩
      cases gs with
      | nil => exact out _ _ _
      | cons g0 gr =>
        -- lot = m['great']; here = int(n) % len(lot); cell = lot[here]
        refine ⟨_, rfl, m, _, rfl, (by rw [← kvM_g (c := c) (g := g) (k := k + 1)]; exact DGet.k (k := kG) (s2 _ _ a1)), ?_⟩
        refine ⟨_, rfl, .inl ⟨_, rfl, _, rfl, g, _, rfl, .inl (SqL.of (s2 _ _ a3)), _, _, rfl, rfl, (by rw [List.length_map, List.length_cons]; omega), ?_⟩⟩
        generalize hj : k % (((g0 :: gr).map V.int).length : Int) = j
        have hlen : (((g0 :: gr).map V.int).length : Int) = (gr.length : Int) + 1 := by rw [List.length_map, List.length_cons]; omega
        have j0 : 0 ≤ j := by rw [← hj]; exact Int.emod_nonneg _ (by omega)
        have j1 : j < (gr.length : Int) + 1 := by rw [← hj, hlen]; exact Int.emod_lt_of_pos _ (by omega)
        obtain ⟨jn, rfl⟩ := Int.eq_ofNat_of_zero_le j0
        have hjn : jn < (g0 :: gr).length := by rw [List.length_cons]; omega
        have gj : (g0 :: gr)[jn]? = some ((g0 :: gr)[jn]) := List.getElem?_eq_getElem hjn
        generalize (g0 :: gr)[jn] = ce at gj
        refine ⟨_, rfl, _, rfl, g, _, _, .int ce, rfl, rfl, SqL.of (s2 _ _ a3), (by rw [hj]; exact atI_nat (map_get gj)), ?_⟩
        refine ⟨_, rfl, _, _, rfl, rfl, _, rfl, ite2 (fun _ => ?_) (fun _ => ?_)⟩
        · refine ⟨_, rfl, _, rfl, _, _, rfl, rfl, ⟨by omega, by omega⟩, _, rfl, _, rfl, g, _, _, jn, rfl, rfl, s2 _ _ a3, (by rw [hj, List.length_map]; exact ixN_nat hjn), ?_⟩
          refine ⟨_, rfl, .inl ⟨_, rfl, ?_⟩⟩
          refine ⟨_, rfl, _, _, rfl, rfl, (by omega), ?_⟩
          refine q _ _ (Int.emod_nonneg _ (by omega)) (Int.emod_lt_of_pos _ (by omega)) ⟨by omega, cs, (g0 :: gr).set jn (ce.fdiv l), ?_, ?_, ?_, C, ?_⟩ (fun b o e n1 n2 => ?_)
          · rw [upd_ne ngm.symm]; exact s2 _ _ a1
          · rw [upd_ne ncg]; exact s2 _ _ a2
          · rw [upd_same, List.map_set]
          · rw [List.length_set]; exact gl
          · rw [upd_ne n2]; exact s2 _ _ (a4 _ _ e n1 n2)
        · exact out _ _ _
    · rintro σ H2 ⟨y3, y4, y5, rfl, ⟨b1, b2, b3⟩, s2⟩
      -- lot = m['cells']; the rest
      obtain ⟨kn, rfl⟩ := Int.eq_ofNat_of_zero_le k0
      have hm64 : ((kn : Int) % 64) = ((kn % 64 : Nat) : Int) := by omega
      obtain ⟨ce, gc, c0, c1⟩ := C.get (i := kn % 64) (by omega)
      refine ⟨_, rfl, m, _, rfl, (by rw [← kvM_c (c := c) (g := g) (k := (kn : Int) + 1)]; exact DGet.k (k := kC) b1), ?_⟩
      refine ⟨_, rfl, _, rfl, .inl ⟨_, rfl, ?_⟩⟩
      refine ⟨_, _, rfl, rfl, (by show (0 : Int) < 64; decide), ?_⟩
      refine ⟨c, _, _, .int ce, rfl, rfl, SqL.of b2, (by rw [hm64]; exact atI_nat (map_get gc)), ?_⟩
      refine ⟨_, rfl, _, _, rfl, rfl, ⟨by decide, by decide⟩, _, _, rfl, rfl, .inl ⟨by decide, by decide⟩, _, _, rfl, rfl, _, rfl, ?_⟩
      refine ⟨_, _, rfl, by omega, by omega, fun r1 r10 r11 => ?_⟩
      refine ⟨_, rfl, _, _, rfl, rfl, _, _, rfl, by omega, by omega, fun r2 r20 r21 => ?_⟩
      refine .inl ⟨_, rfl, ?_⟩
      refine ⟨_, rfl, _, _, rfl, rfl, (by omega), ?_⟩
      exact q _ _ (Int.emod_nonneg _ (by omega)) (Int.emod_lt_of_pos _ (by omega)) ⟨by omega, cs, gs, b1, b2, b3, C, gl⟩ (a4.trans (But.of s2))
end
end Sg

/-! The laws' own drawing: orders. -/
namespace Sg
open PySem PySem.Spec PyProof.Rows L2
abbrev sOrder : Stmt := topS 25
/-- the numbers as values -/
def nv (l : List Nat) : List V := l.map fun n => V.int (n : Nat)
theorem nv_ints (l : List Nat) : nv l = (l.map fun n => ((n : Nat) : Int)).map V.int := by unfold nv; rw [List.map_map]; rfl
theorem eqv_nil (l : List Int) : PyData.eqv (.list (l.map PyData.int)) (.list []) = l.isEmpty := by cases l <;> rfl
/-- how long the list at R is -/
def lenAt (H : Hp) (R : Addr) : Nat := match H R with
  | some (.lst xs) => xs.length
  | _ => 0
theorem same_but {m g c : Addr} {H H1 : Hp} {k k' : Int} (s : Same H H1) : But m g H H1 := But.of s
theorem erase_perm {α : Type} : ∀ (l : List α) (j : Nat) (h : j < l.length), (l[j] :: l.eraseIdx j).Perm l
  | _ :: _, 0, _ => .refl _
  | a :: r, j + 1, h => (List.Perm.swap a (r[j]'(by simpa using h)) _).trans ((erase_perm r j (by simpa using h)).cons a)
theorem erase_map {α β : Type} (f : α → β) : ∀ (l : List α) (j : Nat), (l.map f).eraseIdx j = (l.eraseIdx j).map f
  | [], _ => rfl
  | _ :: _, 0 => rfl
  | a :: r, j + 1 => by
    show f a :: (r.map f).eraseIdx j = f a :: (r.eraseIdx j).map f
    rw [erase_map f r j]
section
variable {P : Program} {w : World} {K : PySem.W.Frag} {mg : Str → Option Value} {base : Heap}
def spOrder : Sp := fun vs H Q _ => ∃ (m g c : Addr) (k : Int) (n : Nat), vs = [.ref m, .int n] ∧ MSt H m g c k ∧ k < 900000 ∧ n ≤ 1000 ∧
  ∀ (H' : Hp) (p : Addr) (l : List Nat), MSt H' m g c (k + n) → But m g H H' → H p = none → H' p = some (.lst (nv l)) → l.Perm (List.range n) → Q (.ref p) H'
theorem scOrder : FnScope ["m", "many", "rest", "found"] ["m", "many"] (defScope sOrder) := ⟨rfl, rfl, rfl, by decide +kernel, rfl, by decide +kernel, by decide +kernel⟩
theorem ok_order {f fD : Addr} {fd fdD : FuncData} (F : Fun K "_law_order" "_law_order" sOrder f fd) (GD : FnOk P w K mg base CX0 2 fD fdD ["m", "limit"] spDraw) (gD : mg "_law_draw" = some (.ref fD)) (kD : PySem.W.keepIn K (.ref fD) = true) (bD : Binds K fdD ["m", "limit"] [])
    (mli : mg "list" = none) (mra : mg "range" = none) (mle : mg "len" = none) : FnOk P w K mg base CX0 3 f fd ["m", "many"] spOrder := by
  refine F.ok scOrder (fun vs H Q E h => ?_) (fun cdv A outer s H vs Q E hr h => ?_)
  · obtain ⟨m, g, c, k, n, rfl, _⟩ := h
    rfl
  · obtain ⟨m, g, c, k, n, rfl, M, hk, hn, q⟩ := h
    refine ⟨_, pss_cons (ps_par (i := 2) (j := 3) (by rfl) scOrder.nd rfl rfl (by decide) rfl rfl (pa_cons (pe_listRg rfl (by rfl) mli (prg_1 (by rfl) mra (pv 1))) (pa_cons (pe_lst pa_nil) pa_nil)) (by rfl))
      (pss_cons (ps_while PassesOwn.never (pt_cmpR (op_neD hr.units) (pv 2) (pe_lst pa_nil) (nomark _))
        (pss_one (ps_expr (pe_bm PySem.F.plainAttrs_list PySem.F.slot_list_append PySem.F.type_list_append mt_append (pv 3) (pa_cons
          (pe_bm PySem.F.plainAttrs_list PySem.F.slot_list_pop PySem.F.type_list_pop mt_popAt (pv 2) (pa_cons (pe_call GD hr (by rfl) gD kD bD .nil pass0 (pa_cons (pv 0) (pa_cons (pe_callB call_len_seq (by rfl) mle PySem.boot_len (pa_cons (pv 2) pa_nil)) pa_nil))) pa_nil)) pa_nil)))))
      (pss_one (ps_ret (pv 3)))), ?_⟩
    refine ⟨_, rfl, _, rfl, RgOk.of_le (by decide) (by omega) (by decide) (by omega), fun R nR => ?_⟩
    refine ⟨by show 0 ≤ sizeLine; decide, fun D nD => ?_⟩
    refine ⟨_, _, rfl, ?_⟩
    have e0 : rgV 0 (n : Int) = nv (List.range n) := by
      unfold rgV nv
      rw [show ((n : Int) - 0).toNat = n by omega]
      apply List.map_congr_left
      intro i _
      rw [Int.zero_add]
    rw [e0] at nD ⊢
    have oR := M.off nR
    have nRD : R ≠ D := ne_of_none upd_same nD
    have nD0 : H D = none := by
      have z := nD
      rw [upd_ne nRD.symm] at z
      exact z
    have oD := M.off nD0
    have M1 := (M.upd (o := .lst (nv (List.range n))) oR).upd (o := .lst []) oD
    have b1 : But m g H (upd (upd H R (.lst (nv (List.range n)))) D (.lst [])) := fun b o e _ _ => by
      rw [upd_ne (ne_of_none e nD0), upd_ne (ne_of_none e nR)]
      exact e
    have eR : (upd (upd H R (.lst (nv (List.range n)))) D (.lst [])) R = some (.lst (nv (List.range n))) := by rw [upd_ne nRD, upd_same]
    have eD : (upd (upd H R (.lst (nv (List.range n)))) D (.lst [])) D = some (.lst (nv [])) := upd_same
    generalize upd (upd H R (.lst (nv (List.range n)))) D (.lst []) = H1 at M1 b1 eR eD ⊢
    refine while_by (fun σ H' => σ = [some (.ref m), some (.int n), some (.ref R), some (.ref D)] ∧ ∃ (fnd rest : List Nat), MSt H' m g c (k + fnd.length) ∧ But m g H H' ∧ H' R = some (.lst (nv rest)) ∧ H' D = some (.lst (nv fnd)) ∧ (fnd ++ rest).Perm (List.range n))
      (fun _ H' => lenAt H' R) ⟨rfl, [], List.range n, by simpa using M1, b1, eR, eD, .refl _⟩ (fun σ H2 hp => ?_) (fun σ H Q Q' hq h => ?_)
    · obtain ⟨rfl, fnd, rest, M2, b2, eR, eD, perm⟩ := hp
      refine ⟨_, rfl, by show 0 ≤ sizeLine; decide, fun p np => ?_⟩
      have s3 := same_new (o := .lst []) np
      have ep : (upd H2 p (.lst [])) p = some (.lst []) := upd_same
      have lR : lenAt H2 R = rest.length := by unfold lenAt; rw [eR]; show (nv rest).length = _; unfold nv; rw [List.length_map]
      rw [lR]
      replace M2 := M2.same s3
      replace b2 := b2.trans (But.of s3)
      replace eR := s3 _ _ eR
      replace eD := s3 _ _ eD
      generalize upd H2 p (.lst []) = H3 at s3 ep M2 b2 eR eD ⊢
      have hl := perm.length_eq
      rw [List.length_append, List.length_range] at hl
      refine ⟨.list ((rest.map fun n => ((n : Nat) : Int)).map PyData.int), .list [], .lst (SqL.of (by rw [nv_ints] at eR; exact eR)) (dpAll_ints _), .lst (SqL.of ep) .nil, shaped_ints _, rfl, !rest.isEmpty, ?_, ?_⟩
      · rw [eqv_nil]
        cases rest <;> rfl
      cases rest with
      | nil =>
        refine ite_ff ⟨_, rfl, ?_⟩
        rw [List.append_nil] at perm
        rw [List.length_nil] at hl
        exact q _ D fnd (by rw [show (n : Int) = (fnd.length : Int) by omega]; exact M2) b2 nD0 eD perm
      | cons r0 rr =>
        refine ite_tt ?_
        have hlen : (((nv (r0 :: rr)).length : Nat) : Int) = (rr.length : Int) + 1 := by unfold nv; rw [List.length_map, List.length_cons]; omega
        rw [List.length_cons] at hl
        refine ⟨_, rfl, .inl ⟨rfl, _, SqL.of eD⟩, ?_⟩
        refine ⟨_, rfl, .inl ⟨rfl, _, SqL.of eR⟩, ?_⟩
        refine ⟨_, rfl, _, rfl, R, _, rfl, .inl (SqL.of eR), ?_⟩
        refine ⟨m, g, c, _, _, rfl, M2, by omega, by omega, by omega, fun r H4 r0' r1 M4 b4 => ?_⟩
        obtain ⟨j, rfl⟩ := Int.eq_ofNat_of_zero_le r0'
        have hj : j < (r0 :: rr).length := by rw [List.length_cons]; omega
        replace eR := b4 _ _ eR oR.m oR.g
        replace eD := b4 _ _ eD oD.m oD.g
        replace b2 := b2.trans b4
        have gj : (r0 :: rr)[j]? = some (r0 :: rr)[j] := List.getElem?_eq_getElem hj
        refine ⟨R, _, _, j, V.int (((r0 :: rr)[j] : Nat) : Int), rfl, rfl, eR, by omega, by omega, ?_, ?_, ?_⟩
        · rw [seqIndex_of (by omega) (by unfold nv; rw [List.length_map]; omega)]
          rfl
        · unfold nv
          rw [List.getElem?_map, gj]; rfl
        refine ⟨D, _, _, rfl, rfl, by rw [upd_ne nRD.symm]; exact eD, ?_, ?_⟩
        · unfold nv; rw [List.length_map]; exact small1000 (by omega)
        refine ⟨⟨rfl, fnd ++ [(r0 :: rr)[j]], (r0 :: rr).eraseIdx j, ?_, ?_, ?_, ?_, ?_⟩, ?_⟩
        · have := (M4.upd (o := .lst ((nv (r0 :: rr)).eraseIdx j)) oR).upd (o := .lst (nv fnd ++ [V.int (((r0 :: rr)[j] : Nat) : Int)])) oD
          rw [List.length_append, List.length_singleton]
          rw [show k + ((fnd.length + 1 : Nat) : Int) = k + (fnd.length : Int) + 1 by omega]
          exact this
        · intro b o e h1 h2
          have nb1 : b ≠ D := ne_of_none e nD0
          have nb2 : b ≠ R := ne_of_none e nR
          rw [upd_ne nb1, upd_ne nb2]
          exact b2 b o e h1 h2
        · rw [upd_ne nRD, upd_same]
          unfold nv
          rw [erase_map]
        · rw [upd_same]
          unfold nv
          rw [List.map_append]; rfl
        · rw [List.append_assoc]
          exact ((erase_perm _ j hj).append_left fnd).trans perm
        · show lenAt _ R < _
          unfold lenAt
          rw [upd_ne nRD, upd_same]
          show ((nv (r0 :: rr)).eraseIdx j).length < _
          rw [List.length_eraseIdx, if_pos (by unfold nv; rw [List.length_map]; exact hj)]
          unfold nv
          rw [List.length_map, List.length_cons]
          omega
    · obtain ⟨v, e, z, h⟩ := h
      refine ⟨v, e, z, fun p np => ?_⟩
      obtain ⟨d, e', h1, h2, h3, h4, b, h5, h6⟩ := h p np
      exact ⟨d, e', h1, h2, h3, h4, b, h5, hq _ _ h6⟩
end
end Sg

/-! is_whole and is_set where ints stand. -/
namespace Sg
open PySem PySem.Spec PyProof.Rows L2 RZ
abbrev sWhole : Stmt := topS 11
abbrev sSet : Stmt := topS 12
section
variable {P : Program} {w : World} {K : PySem.W.Frag} {mg : Str → Option Value} {base : Heap}
def spWhole : Sp := fun vs H Q _ => ∃ i m : Int, vs = [.int i, .int m] ∧ Q (.bl (decide (0 ≤ i) && decide (i < m))) H
theorem scWhole : FnScope ["value", "many"] ["value", "many"] (defScope sWhole) := ⟨rfl, rfl, rfl, by decide +kernel, rfl, by decide +kernel, by decide +kernel⟩
theorem ok_whole {f : Addr} {fd : FuncData} (F : Fun K "is_whole" "is_whole" sWhole f fd) (mis : mg "isinstance" = none) (mi : mg "int" = none) (mb : mg "bool" = none) : FnOk P w K mg base CX0 1 f fd ["value", "many"] spWhole := by
  refine F.ok scWhole (fun vs H Q E h => ?_) (fun cdv A outer s H vs Q E hr h => ?_)
  · obtain ⟨i, m, rfl, _⟩ := h
    rfl
  · obtain ⟨i, m, rfl, q⟩ := h
    refine ⟨_, pss_one (ps_ret (pe_and (pe_callB call_isi (by rfl) mis (by decide +kernel) (pa_cons (pv 0) (pa_cons (pe_bltn (v := .ty "int") (u := .type "int") (by rfl) mi (by decide +kernel) rfl) pa_nil)))
      (pe_and (pe_not (pe_callB call_isi (by rfl) mis (by decide +kernel) (pa_cons (pv 0) (pa_cons (pe_bltn (v := .ty "bool") (u := .type "bool") (by rfl) mb (by decide +kernel) rfl) pa_nil))))
        (pe_one (pe_chain op_le op_lt pe_int (pv 0) (pv 1)))))), ?_⟩
    refine ⟨_, rfl, _, _, _, _, _, rfl, .ty "int", .base (.int i), kit_ty (by decide +kernel), true, rfl, ?_⟩
    refine ite_tt ?_
    refine ⟨_, rfl, _, _, _, _, _, rfl, .ty "bool", .base (.int i), kit_ty (by decide +kernel), false, rfl, true, rfl, ?_⟩
    refine ite_tt ?_
    refine ⟨_, rfl, _, _, rfl, rfl, _, rfl, ?_⟩
    by_cases h0 : 0 ≤ i
    · rw [decide_eq_true h0, Bool.true_and] at q
      rw [decide_eq_true h0]
      refine ite_tt ?_
      exact ⟨_, rfl, _, _, rfl, rfl, q⟩
    · rw [decide_eq_false h0, Bool.false_and] at q
      rw [decide_eq_false h0]
      exact ite_ff q
/-! ### is_set -/
theorem same_tup {H H' : Hp} {a : Addr} {xs : List V} (e : Same H H') (h : SqT K H a xs) : SqT K H' a xs := by
  rcases h with (h | ⟨o, h⟩) | h
  · exact .inl (.inl (e _ _ h))
  · exact .inl (.inr ⟨o, e _ _ h⟩)
  · exact .inr h
theorem tyx_tup {H : Hp} {a : Addr} {xs : List V} (h : SqT K H a xs) : TyX K H (.ref a) (.type "tuple") := by
  rcases h with (h | ⟨o, h⟩) | ⟨o, its, n, h1, h2, _⟩
  · exact .base (.tup h)
  · exact .fTuple h
  · exact .kTuple h1 h2
theorem walk_zipT {a b : Addr} {xs ys : List V} {n : Nat} (hn : n = min xs.length ys.length) : Walk (ItzT K a b) n (fun H => SqT K H a xs ∧ SqT K H b ys) (YPair (fun i => xs[i]?) (fun i => ys[i]?)) := by
  subst hn
  refine ⟨fun i _ hi q => ?_, fun _ q => ⟨xs, ys, q.1, q.2, by omega⟩, fun i H v H' _ q y => ?_⟩
  · have h1 : i < xs.length := by omega
    have h2 : i < ys.length := by omega
    exact ⟨xs, ys, xs[i], ys[i], q.1, q.2, by simp [h1], by simp [h2]⟩
  · obtain ⟨T, x, z, h1, h2, h3, h4, h5⟩ := y
    exact ⟨T, x, z, h1, h2, h3, h4 xs q.1, h5 ys q.2⟩
/-- the ties of a star: each from 0 to m - 1, each below the next -/
def inB (m i : Int) : Bool := decide (0 ≤ i) && decide (i < m)
def ltB (ns : List Int) (i : Nat) : Bool := match ns[i]?, ns[i + 1]? with
  | some x, some y => decide (x < y)
  | _, _ => true
def setB (m : Int) (ns : List Int) : Bool := ns.all (inB m) && ((List.range (ns.length - 1)).map (ltB ns)).all id
theorem cut1 {ns : List Int} (h : ns ≠ []) : cutV (ns.map V.int) (some 1) none = (ns.drop 1).map V.int := by
  have hl : 1 ≤ ns.length := by cases ns with | nil => exact absurd rfl h | cons _ _ => simp
  have e := HT.sIx_nat (ns.map V.int).length 0 1
  unfold cutV
  rw [show (some (1 : Int)) = some ((1 : Nat) : Int) from rfl, e, HT.sIx_none, List.length_map, Nat.min_eq_left hl, List.map_drop, List.take_of_length_le]
  rw [List.length_drop, List.length_map]
  omega
def spSet (K : PySem.W.Frag) : Sp := fun vs H Q _ => ∃ (a : Addr) (ns : List Int) (m : Int), vs = [.ref a, .int m] ∧ SqT K H a (ns.map V.int) ∧ ns ≠ [] ∧ ns.length ≤ 100 ∧ ∀ H', Same H H' → Q (.bl (setB m ns)) H'
theorem scSet : FnScope ["value", "many", "tie", "above"] ["value", "many"] (defScope sSet) := ⟨rfl, rfl, rfl, by decide +kernel, rfl, by decide +kernel, by decide +kernel⟩
theorem ok_set {f fW : Addr} {fd fdW : FuncData} (F : Fun K "is_set" "is_set" sSet f fd) (GW : FnOk P w K mg base CX0 1 fW fdW ["value", "many"] spWhole) (gW : mg "is_whole" = some (.ref fW)) (kW : PySem.W.keepIn K (.ref fW) = true) (bW : Binds K fdW ["value", "many"] [])
    (mis : mg "isinstance" = none) (mt : mg "tuple" = none) (mal : mg "all" = none) (mz : mg "zip" = none) : FnOk P w K mg base CX0 2 f fd ["value", "many"] (spSet K) := by
  refine F.ok scSet (fun vs H Q E h => ?_) (fun cdv A outer s H vs Q E hr h => ?_)
  · obtain ⟨a, ns, m, rfl, _⟩ := h
    rfl
  · obtain ⟨a, ns, m, rfl, hS, hne, hl, k⟩ := h
    refine ⟨_, pss_cons (ps_if (pt_not (pt_val (pe_callB call_isi (by rfl) mis (by decide +kernel) (pa_cons (pv 0) (pa_cons (pe_bltn (v := .ty "tuple") (u := .type "tuple") (by rfl) mt (by decide +kernel) rfl) pa_nil))))) (pss_one (ps_ret pe_bl)) pss_nil)
      (pss_cons (ps_if (pt_not (pt_val (pe_callB (id := "all") (cr_all rfl) (by rfl) mal (by decide +kernel) (pa_cons (pe_lc (own := [("tie", 2)]) (g := gName 2) (tt := tYes) (by rfl) scSet.nd (pi_tup (pv 0)) (blkOk_by (own := [("tie", 2)]) (N := ["value", "many", "tie", "above"]) (sc := defScope sSet) (by decide +kernel))
          (fun _ _ _ _ _ => pg_name (i := 2) scSet.nd rfl (Or.inl rfl)) (fun _ _ _ _ _ => pts_nil) (fun _ _ _ _ _ => pe_call GW hr (by rfl) gW kW bW .nil pass0 (pa_cons (pv 2) (pa_cons (pv 1) pa_nil)))) pa_nil)))) (pss_one (ps_ret pe_bl)) pss_nil)
      (pss_one (ps_ret (pe_callB (id := "all") (cr_all rfl) (by rfl) mal (by decide +kernel) (pa_cons (pe_lc (own := [("tie", 2), ("above", 3)]) (g := gTup K 2 (gCons (gName 2) (gCons (gName 3) gNil))) (tt := tYes) (by rfl) scSet.nd (pi_zipA (by rfl) mz (pa_cons (pv 0) (pa_cons (pe_slice sl_tup (pv 0) (po_some pe_int) po_none) pa_nil))) (blkOk_by (own := [("tie", 2), ("above", 3)]) (N := ["value", "many", "tie", "above"]) (sc := defScope sSet) (by decide +kernel))
          (fun _ _ _ _ _ => pg_tup rfl (pgs_cons (pg_name (i := 2) scSet.nd rfl (Or.inl rfl)) (pgs_cons (pg_name (i := 3) scSet.nd rfl (Or.inl rfl)) pgs_nil))) (fun _ _ _ _ _ => pts_nil) (fun _ _ _ _ _ => pe_cmpR op_lt (pv 2) (pv 3) (nomark _))) pa_nil))))), ?_⟩
    refine ⟨_, rfl, _, _, _, _, _, rfl, .ty "tuple", tyx_tup hS, kit_ty (by decide +kernel), true, rfl, ite_ff ?_⟩
    -- all([is_whole(tie, many) for tie in value])
    refine ⟨_, rfl, a, rfl, ⟨_, hS⟩, fun D nD => ?_⟩
    refine lc_tup (K := K) (a := a) (xs := ns.map V.int) (fun i H' => Same H H' ∧ H' D = some (.lst ((ns.take i).map fun t => V.bl (inB m t)))) ⟨same_new nD, upd_same⟩ (fun i H' _ hp => same_tup hp.1 (hS)) (fun i x H' hx hp => ?_) (fun H' hp => ?_)
    · obtain ⟨sm, eD⟩ := hp
      obtain ⟨t, rfl, ht⟩ : ∃ t, x = V.int t ∧ ns[i]? = some t := by
        rw [List.getElem?_map] at hx
        cases e : ns[i]? with
        | none => rw [e] at hx; cases hx
        | some u => rw [e] at hx; exact ⟨u, (Option.some.inj hx).symm, rfl⟩
      have hi := (List.getElem?_eq_some_iff.mp ht).1
      refine ⟨rfl, tyes_ite ?_⟩
      refine ⟨_, rfl, _, rfl, t, m, rfl, ?_⟩
      refine ⟨_, eD, ?_, fun b o e => ?_, ?_⟩
      · rw [List.length_map, List.length_take]; exact small1000 (by omega)
      · rw [upd_ne (ne_of_none e nD)]
        exact sm b o e
      · rw [upd_same, List.take_add_one, ht, List.map_append]
        rfl
    obtain ⟨s1, e1⟩ := hp
    rw [List.length_map, List.take_length] at e1
    refine ⟨D, ns.map (inB m), rfl, SqL.of (by rw [List.map_map]; exact e1), _, rfl, ?_⟩
    have eb : (ns.map (inB m)).all id = ns.all (inB m) := by rw [List.all_map]; rfl
    rw [eb]
    cases hb : ns.all (inB m) with
    | false =>
      have : setB m ns = false := by unfold setB; rw [hb, Bool.false_and]
      rw [this] at k
      exact ite_tt (k _ s1)
    | true =>
      have eS : setB m ns = ((List.range (ns.length - 1)).map (ltB ns)).all id := by unfold setB; rw [hb, Bool.true_and]
      rw [eS] at k
      refine ite_ff ?_
      -- all([tie < above for tie, above in zip(value, value[1:])])
      refine ⟨_, rfl, _, rfl, 1, rfl, a, _, rfl, same_tup s1 (hS), ?_, fun p np => ?_⟩
      · intro z
        have hl1 : 1 ≤ ns.length := by cases ns with | nil => exact absurd rfl hne | cons _ _ => simp
        have e := HT.sIx_nat (ns.map V.int).length 0 1
        rw [show (some (1 : Int)) = some ((1 : Nat) : Int) from rfl, e, List.length_map, Nat.min_eq_left hl1] at z
        exact absurd z.1 (by decide)
      rw [cut1 hne]
      have s2 := s1.trans (same_new (o := .tup ((ns.drop 1).map V.int)) np)
      have hp : SqT K (upd H' p (.tup ((ns.drop 1).map V.int))) p ((ns.drop 1).map V.int) := SqT.of upd_same
      generalize upd H' p (.tup ((ns.drop 1).map V.int)) = H2 at s2 hp ⊢
      refine ⟨a, p, _, _, rfl, .inr ⟨same_tup s2 (hS), hp, fun D2 nD2 => ?_⟩⟩
      refine lc_it (walk_zipT (n := ns.length - 1) (xs := ns.map V.int) (ys := (ns.drop 1).map V.int) (by rw [List.length_map, List.length_map, List.length_drop]; omega)) (fun i H' => Same H2 H' ∧ H' D2 = some (.lst ((List.range i).map fun j => V.bl (ltB ns j)))) ⟨same_new nD2, upd_same⟩ (fun i H' _ q => ⟨same_tup q.1 ((same_tup s2 hS)), same_tup q.1 (hp)⟩) (fun i x H3 H4 hi q hy => ?_) (fun H3 q => ?_)
      · obtain ⟨sm, eD⟩ := q
        obtain ⟨T, x1, x2, rfl, nT, rfl, f1, f2⟩ := hy
        have g1 : ns[i]? = some ns[i] := List.getElem?_eq_getElem (by omega)
        have g2 : ns[i + 1]? = some ns[i + 1] := List.getElem?_eq_getElem (by omega)
        have f1 : (ns.map V.int)[i]? = some x1 := f1
        have f2 : ((ns.drop 1).map V.int)[i]? = some x2 := f2
        rw [List.getElem?_map, g1] at f1
        rw [List.getElem?_map, List.getElem?_drop, Nat.add_comm 1 i, g2] at f2
        cases f1
        cases f2
        have nDT : D2 ≠ T := ne_of_none eD nT
        refine ⟨T, _, rfl, .inl (.inl upd_same), rfl, _, _, rfl, _, _, rfl, rfl, rfl, tyes_ite ?_⟩
        refine ⟨_, rfl, _, rfl, _, _, rfl, rfl, ?_⟩
        refine ⟨_, by rw [upd_ne nDT]; exact eD, ?_, fun b o e => ?_, ?_⟩
        · rw [List.length_map, List.length_range]; exact small1000 (by omega)
        · rw [upd_ne (ne_of_none e nD2), upd_ne (ne_of_none (sm _ _ e) nT)]
          exact sm b o e
        · rw [upd_same, List.range_succ, List.map_append]
          have : ltB ns i = decide (ns[i] < ns[i + 1]) := by unfold ltB; rw [g1, g2]
          show some (HO.lst (_ ++ [V.bl (decide (ns[i] < ns[i + 1]))])) = some (HO.lst (_ ++ [V.bl (ltB ns i)]))
          rw [this]
      obtain ⟨s3, e3⟩ := q
      refine ⟨D2, (List.range (ns.length - 1)).map (ltB ns), rfl, SqL.of (by rw [List.map_map]; exact e3), ?_⟩
      exact k _ (s2.trans s3)
end
end Sg

/-! enumerate(t), t a tuple: its making, its turns. -/
namespace Sg
open PySem PySem.Spec PyProof.Rows L2 RZ
set_option maxHeartbeats 4000000 in
theorem meets_enumB1 {v : Value} {o : Obj} {H : Heap → Prop} (B : Begins v o H) :
    Meets (Builtin.«enumerate.__new__» ⟨[.type "enumerate", v], []⟩) (fun _ R s => H s.heap ∧
      R (.ok (.ret (.ref (s.heap.push o).objs.size))) { s with heap := (s.heap.push o).push { cls := .type "enumerate", data := .fields #[.none, .bool false, .ref s.heap.objs.size, rawInt 0, .none, .none] } }) :=
  .of_wp fun prog w A R s h => by
    obtain ⟨hp, g, d, tk, os⟩ := s; obtain ⟨h1, h⟩ := h
    have hsub := sub_enumerate
    have q1 : ∀ {A' : Around} {E : Value → Shared → Prop} {Q : Value → Shared → Prop}, Q (.ref hp.objs.size) ⟨hp.push o, g, d, tk, os⟩ → wpAny (model prog w) A' (pyIter v) Q E ⟨hp, g, d, tk, os⟩ :=
      fun q => B.iter prog w _ _ ⟨hp, g, d, tk, os⟩ _ h1 q
    wp_walk using q1
    refine wpAny_stack_any fun st => wpAny_pure ?_
    split
    · rename_i c _ _ _ _ _
      cases (c == Value.type "enumerate")
      · wp_walk using q1
        exact ⟨_, rfl, h⟩
      · wp_walk using q1
        exact ⟨_, rfl, h⟩
    · wp_walk using q1
      exact ⟨_, rfl, h⟩
theorem call_enumT {prog : Program} {w : World} {A : Around} {E : Value → Shared → Prop} {s : Shared} {l : Addr} {items : Array Value} {Q : Value → Shared → Prop} (hL : s.heap.IsTuple l items)
    (h : ∀ h', IsEnum h' (s.heap.objs.size + 1) s.heap.objs.size 0 .none → h'.IsTupleIter s.heap.objs.size l 0 → h'.objs.size = s.heap.objs.size + 2 →
      (∀ b o, s.heap.get? b = some o → h'.get? b = some o) → Q (.ref (s.heap.objs.size + 1)) { s with heap := h' }) :
    wpAny (model prog w) A (call (.type "enumerate") [.ref l]) Q E s := by
  refine callType_new F.called_enumerate (by decide) (F.typeCall_enumerate_1 _) (F.newCall_enumerate_1 _) (fun obj => F.args_object_init_2 obj _) F.entry_enumerate_new
    (meets_enumB1 (begins_tuple l items)) ⟨hL, ?_⟩
  have hz : (s.heap.push { cls := .type "tuple_iterator", data := .fields #[.ref l, .int 0 0] }).objs.size = s.heap.objs.size + 1 := Heap.size_push ..
  show _ ∧ _
  rw [hz]
  have he : IsEnum ((s.heap.push { cls := .type "tuple_iterator", data := .fields #[.ref l, .int 0 0] }).push
      { cls := .type "enumerate", data := .fields #[.none, .bool false, .ref s.heap.objs.size, rawInt 0, .none, .none] }) (s.heap.objs.size + 1) s.heap.objs.size 0 .none := by
    have := Heap.get?_push_size (s.heap.push { cls := .type "tuple_iterator", data := .fields #[.ref l, .int 0 0] })
      (o := { cls := .type "enumerate", data := .fields #[.none, .bool false, .ref s.heap.objs.size, rawInt 0, .none, .none] }) rfl
    rw [hz] at this; exact this
  refine ⟨⟨_, he, rfl⟩, h _ he ⟨_, Heap.get?_push_of_some _ (Heap.get?_push_size _ rfl), rfl, rfl⟩ (by rw [Heap.size_push, hz]) fun b o x => Heap.get?_push_of_some _ (Heap.get?_push_of_some _ x)⟩
/-- the tuple at a, its items in new pairs -/
def IteT (K : PySem.W.Frag) (a : Addr) : It :=
  ⟨fun i H => ∃ (xs : List V) (x : V), SqT K H a xs ∧ xs[i]? = some x, fun i H v H' => ∃ T x, v = .ref T ∧ H T = none ∧ H' = upd H T (.tup [.int (i : Nat), x]) ∧ ∀ xs, SqT K H a xs → xs[i]? = some x, fun i H => ∃ xs : List V, SqT K H a xs ∧ xs.length = i⟩
theorem turn_enumT {P : Program} {w : World} {K : PySem.W.Frag} {elts : List Expr} {kk : Nat} {tpos : Pos} (a e it : Addr) (hai : a ≠ it) (hae : a ≠ e) :
    Turn P w K (.Tuple elts kk tpos) (IteT K a) [e, it] e (fun i h => (∃ old, IsEnum h e it ((i : Nat) : Int) old) ∧ h.IsTupleIter it a i ∧ e ≠ it) where
  mem := by simp
  obj := fun i h st b hb => by
    obtain ⟨⟨old, he⟩, ⟨o, ho, hc, hd⟩, _⟩ := st
    have e' : b = e ∨ b = it := by simpa using hb
    rcases e' with z | z
    · rw [z]; exact ⟨_, he, fun v q => nomatch q⟩
    · rw [z]; exact ⟨o, ho, fun v q => by rw [hd] at q; cases q⟩
  keep := fun i h h' st k => let ⟨⟨old, he⟩, hi, hne⟩ := st; ⟨⟨old, k e (by simp) _ he⟩, hi.at fun o q => k it (by simp) o q, hne⟩
  item := by
    intro X hP hw hK hc i pins s σ H E I hf st hg
    subst hP hw hK
    obtain ⟨⟨old, he⟩, hit, hne⟩ := st
    obtain ⟨xs, x, hq, hx⟩ := hg
    obtain ⟨its, rv, p, hz⟩ := I.tuple hq
    obtain ⟨u, hu, ru⟩ := rv.get hx
    have hel : e < s.heap.objs.size := Heap.lt_size he
    have hil : it < s.heap.objs.size := by obtain ⟨_, q, _⟩ := hit; exact Heap.lt_size q
    have hgu : its.toArray[i]? = some u := by simpa using hu
    have hi : i < its.toArray.size := (Array.getElem?_eq_some_iff.mp hgu).1
    refine wpAny_pyNext_enum_itemD (Draws.tuple (A := X.A.in1) (show X.A.in1.handled = none from I.ok.hd hc) it a hai its.toArray) he ⟨hit, p⟩ hi hne (by simp [hne, Ne.symm hae]) fun x' h' tk hP ho hit' hT hsz hk => ?_
    have ex : x' = u := Option.some.inj (hP.symm.trans hgu)
    subst ex
    refine ⟨_, rfl, wpAny_letOwnedTupleGo_enum (s := { s with heap := h', toks := tk + 1 }) ho fun h'' he' sb => ?_⟩
    have hT2 : h''.get? s.heap.objs.size = some { cls := .type "tuple", data := .seq #[.int i tk, x'] } := (sb.2 _ (Nat.ne_of_gt hel)).trans hT
    have new : ObjOk X.prog X.w (upd H s.heap.objs.size (.tup [.int (i : Nat), x])) h'' s.heap.objs.size (.tup [.int (i : Nat), x]) :=
      ⟨by show 2 ≤ sizeLine; decide, [.int i tk, x'], .cons ⟨_, rfl⟩ (.cons ru .nil), ⟨_, hT2, rfl, _, rfl⟩⟩
    have I1 : Inv X pins σ (upd H s.heap.objs.size (.tup [.int (i : Nat), x])) { s with heap := h'', toks := tk + 1 } :=
      I.turnedNew (ch := [e, it]) (fun b ob hb q => (sb.2 b (fun z => hb (by simp [z]))).trans (hk b ob (fun z => hb (by simp [z])) (fun z => hb (by simp [z])) q)) hf (Nat.le_refl _) new
    refine ⟨.ref s.heap.objs.size, _, I1, rfl, ⟨_, x, rfl, I.hok.fresh (Nat.le_refl _), rfl, fun ys hy => by rw [I.tuple_inj hy hq]; exact hx⟩, ⟨⟨x', ?_⟩, hit'.1.at fun o q => (sb.2 it (Ne.symm hne)).trans q, hne⟩, fun b hb => ?_⟩
    · have e1 : ((i + 1 : Nat) : Int) = (i : Int) + 1 := by omega
      rw [e1]; exact he'
    · have hb' : b < s.heap.objs.size := by
        have e' : b = e ∨ b = it := by simpa using hb
        rcases e' with z | z
        · rw [z]; exact hel
        · rw [z]; exact hil
      rw [upd_ne (Nat.ne_of_lt hb')]
      exact (hf b hb).1
  done := by
    intro X hP hw hK hc i pins s σ H E I hf st hg
    subst hP hw hK
    obtain ⟨⟨old, he⟩, hit, hne⟩ := st
    obtain ⟨xs, hq, hx⟩ := hg
    obtain ⟨its, rv, p, hz⟩ := I.tuple hq
    obtain ⟨f0, f1, f2, f3, f4, f5⟩ := hf it (by simp)
    have hl := rv.length
    have hi : i = its.toArray.size := by rw [← hx, hl]; simp
    rw [hi] at hit he
    exact wpAny_pyNext_enum_endD (Draws.tuple (A := X.A.in1) (show X.A.in1.handled = none from I.ok.hd hc) it a hai its.toArray) he ⟨hit, p⟩ fun h' eb => ⟨rfl, I.turned (t' := s.toks) (fun b o hb q => eb b o hb q) f0 f1 f3 f4 f5⟩
  self := fun A i s Q E st h => let ⟨⟨_, he⟩, _⟩ := st; wpAny_pyIter_enum he h
theorem walk_enumT {K : PySem.W.Frag} {a : Addr} {xs : List V} : Walk (IteT K a) xs.length (fun H => SqT K H a xs) (YPair (fun i => some (.int (i : Nat))) (fun i => xs[i]?)) := by
  refine ⟨fun i H hi q => ⟨xs, xs[i], q, by simp [hi]⟩, fun _ q => ⟨xs, q, rfl⟩, fun i H v H' _ q y => ?_⟩
  obtain ⟨T, x, h1, h2, h3, h4⟩ := y
  exact ⟨T, .int (i : Nat), x, h1, h2, h3, rfl, h4 xs q⟩
/-- enumerate of a list or a tuple -/
def iEnumA (K : PySem.W.Frag) (ta : TA) : TI := fun σ H R => ta σ H fun vs H1 => ∃ a xs, vs = [.ref a] ∧ ((SqL K H1 a xs ∧ R (Ite K a) H1) ∨ (SqT K H1 a xs ∧ R (IteT K a) H1))
theorem pi_enumA {X : Cx} {e : Expr} {ta : TA} {p pos tpos : Pos} {elts : List Expr} {kk : Nat} (hg : Gl X "enumerate") (hm : X.mg "enumerate" = none) (ha : PA X [e] ta) (hs : starEach [e] X.env = [(false, eval e X.env)] := by rfl) :
    PI X (.Tuple elts kk tpos) (.Call (.Name "enumerate" p) [e] [] pos) (iEnumA X.K ta) := by
  refine ⟨fun pins s σ H R I h => ?_⟩
  refine Call_ (ld_blt I hg hm boot_enumerate (PyProof.Rows.callWith_type1 (thn (ha.run pos pins s σ H _ I h) fun us s1 ⟨vs, H1, I1, r1, q1⟩ => ?_) hs rfl))
  obtain ⟨a, xs, ex, q1⟩ := q1
  subst ex
  cases r1 with
  | cons r rr =>
    cases rr
    cases r
    have fresh2 : ∀ b, b ∈ [s1.heap.objs.size + 1, s1.heap.objs.size] → FpOk X pins H1 b := fun b hb => by
      have e' : b = s1.heap.objs.size + 1 ∨ b = s1.heap.objs.size := by simpa using hb
      have hle : s1.heap.objs.size ≤ b := by
        rcases e' with z | z
        · rw [z]; exact Nat.le_add_right _ _
        · rw [z]; exact Nat.le_refl _
      exact I1.fpOk hle (I1.hok.fresh hle)
    rcases q1 with ⟨hq, q⟩ | ⟨hq, q⟩
    · obtain ⟨its, rv, p', hz⟩ := I1.list hq
      refine call_enumerate_list p'.isList fun h' he hit hsz hk => wpAny_pyIter_enum he ?_
      have I2 : Inv X pins σ H1 { s1 with heap := h' } := I1.kept (t' := s1.toks) hk
      exact ⟨s1.heap.objs.size + 1, [s1.heap.objs.size + 1, s1.heap.objs.size], _, _, H1, rfl, I2, turn_enum a (s1.heap.objs.size + 1) s1.heap.objs.size, ⟨⟨.none, he⟩, hit, Nat.succ_ne_self _⟩, fresh2, q⟩
    · obtain ⟨its, rv, p', hz⟩ := I1.tuple hq
      obtain ⟨o1, ho1, _⟩ := id p'
      have hlt : a < s1.heap.objs.size := Heap.lt_size ho1
      refine call_enumT p' fun h' he hit hsz hk => wpAny_pyIter_enum he ?_
      have I2 : Inv X pins σ H1 { s1 with heap := h' } := I1.kept (t' := s1.toks) hk
      exact ⟨s1.heap.objs.size + 1, [s1.heap.objs.size + 1, s1.heap.objs.size], _, _, H1, rfl, I2, turn_enumT a (s1.heap.objs.size + 1) s1.heap.objs.size (Nat.ne_of_lt hlt) (Nat.ne_of_lt (Nat.lt_succ_of_lt hlt)), ⟨⟨.none, he⟩, hit, Nat.succ_ne_self _⟩, fresh2, q⟩
end Sg

/-! check_stars where the stars are right. -/
namespace Sg
open PySem PySem.Spec PyProof.Rows L2 RZ
abbrev sCheck : Stmt := topS 16
section
variable {X : Cx}
/-- xs[i], by values, as in xs[i] += e -/
def rGetL (K : PySem.W.Frag) : V → V → Hp → VK → Prop := fun o i H Q => ∃ p xs k v, o = .ref p ∧ i = .int k ∧ SqL K H p xs ∧ 0 ≤ k ∧ atI xs k = some v ∧ Q v H
theorem get_list : PGet X (rGetL X.K) := by
  intro pins s σ H o i ov iv Q I ro ri h
  obtain ⟨p, xs, k, v, rfl, rfl, hq, h0, he, q⟩ := h
  cases ro
  obtain ⟨t, rfl⟩ := ri
  obtain ⟨its, r, pl, hz⟩ := I.list hq
  obtain ⟨j, h1, h2, h3, h4, h5⟩ := atI_get he
  obtain ⟨w, ew, rw'⟩ := r.get h2
  have hl := r.length
  have hn := line63
  have hj : k.toNat = j := by
    rw [seqIndex_of h0 h5] at h1
    exact Option.some.inj h1
  exact getItem_listL pl.isList h0 (by omega) (by rw [hj]; simpa using ew) ⟨v, H, I, rw', q⟩
end
section
variable {P : Program} {w : World} {K : PySem.W.Frag} {mg : Str → Option Value} {base : Heap}
theorem tyx_lst {H : Hp} {a : Addr} {xs : List V} (h : SqL K H a xs) : TyX K H (.ref a) (.type "list") := by
  rcases h with (h | ⟨o, h⟩) | ⟨o, its, n, h1, h2, _⟩
  · exact .base (.lst h)
  · exact .base (.frz h)
  · exact .kList h1 h2
/-- a list or a tuple -/
def SqA (K : PySem.W.Frag) (H : Hp) (a : Addr) (xs : List V) : Prop := SqL K H a xs ∨ SqT K H a xs
theorem SqA.same {H H' : Hp} {a : Addr} {xs : List V} (h : SqA K H a xs) (s : Same H H') : SqA K H' a xs := h.elim (fun h => .inl (s.seq h)) fun h => .inr (same_tup s h)
theorem enum_var {σ : L2.St} {Hb H : Hp} {R : It → Hp → Prop} {i : Nat} {a : Addr} {xs : List V} (hσ : σ[i]? = some (some (.ref a))) (h : SqA K Hb a xs) (s : Same Hb H)
    (k : ∀ (J : It) (G : Hp → Prop), Walk J xs.length G (YPair (fun i => some (.int (i : Nat))) (fun i => xs[i]?)) → (∀ H', Same Hb H' → G H') → R J H) : iEnumA K (tCons (tVar i) tNil) σ H R := by
  refine ⟨_, hσ, a, xs, rfl, ?_⟩
  rcases h with h | h
  · exact .inl ⟨s.seq h, k _ _ walk_enum fun H' s => s.seq h⟩
  · exact .inr ⟨same_tup s h, k _ _ walk_enumT fun H' s => same_tup s h⟩
/-- stars that stand: each a tuple of its ties -/
def Stars (K : PySem.W.Frag) (H : Hp) (xs : List V) (ss : List (List Int)) : Prop := xs.length = ss.length ∧ ∀ (i : Nat) (s : List Int), ss[i]? = some s → ∃ a : Addr, xs[i]? = some (V.ref a) ∧ SqT K H a (s.map V.int)
theorem Stars.same {H H' : Hp} {xs : List V} {ss : List (List Int)} (h : Stars K H xs ss) (s : Same H H') : Stars K H' xs ss := ⟨h.1, fun i t e => let ⟨a, h1, h2⟩ := h.2 i t e; ⟨a, h1, same_tup s h2⟩⟩
/-- how often each of the twelve ties stands in l -/
def cntOf (l : List Int) : List Int := (List.range 12).map fun (t : Nat) => ((l.count (t : Int) : Nat) : Int)
theorem cntOf_len (l : List Int) : (cntOf l).length = 12 := by unfold cntOf; rw [List.length_map, List.length_range]
theorem cntOf_get (l : List Int) {t : Nat} (h : t < 12) : (cntOf l)[t]? = some ((l.count (t : Int) : Nat) : Int) := by
  unfold cntOf
  rw [List.getElem?_map, List.getElem?_range h]; rfl
theorem cntOf_add (l : List Int) {t : Nat} (h : t < 12) : cntOf (l ++ [(t : Int)]) = (cntOf l).set t (((l.count (t : Int) : Nat) : Int) + 1) := by
  apply List.ext_getElem?
  intro j
  by_cases hj : j < 12
  · rw [cntOf_get _ hj, List.getElem?_set, cntOf_len, List.count_append, List.count_singleton]
    by_cases e : t = j
    · subst e
      rw [if_pos rfl, if_pos h]
      simp
    · rw [if_neg e, cntOf_get _ hj]
      have : ((t : Int) == (j : Int)) = false := by simp; omega
      rw [this]; simp
  · rw [List.getElem?_eq_none (by rw [cntOf_len]; omega), List.getElem?_eq_none (by rw [List.length_set, cntOf_len]; omega)]
/-- the stars of a web of k ties -/
structure Good (ss : List (List Int)) (k : Nat) : Prop where
  n : ss.length ≤ 100
  ne : ∀ s ∈ ss, s ≠ []
  st : ∀ s ∈ ss, setB 12 s = true
  le : ∀ (i : Nat) (x y : List Int), ss[i]? = some x → ss[i + 1]? = some y → HT.lexLt y x = false
  two : ∀ t : Int, ss.flatten.count t ≤ 2
  k12 : k ≤ 12
  all : ∀ t : Nat, t < 12 → (0 < ss.flatten.count (t : Int) ↔ t < k)
theorem ite_cf {c : Bool} {A B : Prop} (h : c = false) (q : B) : if c = true then A else B := by rw [h]; exact ite_ff q
theorem kit2 {H : Hp} {a : Addr} {xs : List V} (h : SqA K H a xs) : ∃ t, TyX K H (.ref a) t ∧ PySem.W.kitAny K t [.type "list", .type "tuple"] = some true := by
  rcases h with h | h
  · exact ⟨_, tyx_lst h, kitAny_cons (b := true) (kit_ty (by decide +kernel)) (fun z => nomatch z) fun _ => rfl⟩
  · exact ⟨_, tyx_tup h, kitAny_cons (b := false) (kit_ty (by decide +kernel)) (fun _ => kitAny_cons (b := true) (kit_ty (by decide +kernel)) (fun z => nomatch z) fun _ => rfl) fun _ => rfl⟩
theorem tup_upd {H : Hp} {a D : Addr} {xs l : List V} {o : HO} (h : SqT K H a xs) (hD : H D = some (.lst l)) : SqT K (upd H D o) a xs := by
  have ne : ∀ o', H a = some o' → o' ≠ .lst l → a ≠ D := fun o' e z q => by
    rw [q, hD] at e
    exact z (Option.some.inj e).symm
  rcases h with (h | ⟨o', h⟩) | h
  · exact .inl (.inl (by rw [upd_ne (ne _ h (fun z => nomatch z))]; exact h))
  · exact .inl (.inr ⟨o', by rw [upd_ne (ne _ h (fun z => nomatch z))]; exact h⟩)
  · exact .inr h
theorem same_upd {H H' : Hp} {D : Addr} {o : HO} (s : Same H H') (n : H D = none) : Same H (upd H' D o) := fun b x e => by
  rw [upd_ne (ne_of_none e n)]
  exact s b x e
/-- the star ahead of the i-th -/
def prev (ss : List (List Int)) : Nat → List Int
  | 0 => []
  | i + 1 => (ss[i]?).getD []
theorem prev_le {ss : List (List Int)} {k i : Nat} (h : Good ss k) {s : List Int} (e : ss[i]? = some s) (hne : s ≠ []) : HT.lexLt s (prev ss i) = false := by
  cases i with
  | zero =>
    cases s with
    | nil => exact absurd rfl hne
    | cons _ _ => rfl
  | succ j =>
    have hj : j < ss.length := by have := (List.getElem?_eq_some_iff.mp e).1; omega
    have g : ss[j]? = some ss[j] := List.getElem?_eq_getElem hj
    show HT.lexLt s ((ss[j]?).getD []) = false
    rw [g]
    exact h.le j _ _ g e
theorem pre_count {ss : List (List Int)} {i j : Nat} {s : List Int} {t : Int} (e : ss[i]? = some s) (f : s[j]? = some t) : ((ss.take i).flatten ++ s.take j).count t + 1 ≤ ss.flatten.count t := by
  have hi := (List.getElem?_eq_some_iff.mp e).1
  have hj := (List.getElem?_eq_some_iff.mp f).1
  have e1 : ss = ss.take i ++ (s :: ss.drop (i + 1)) := by
    have := List.take_append_drop i ss
    rw [List.drop_eq_getElem_cons hi, (List.getElem?_eq_some_iff.mp e).2] at this
    exact this.symm
  have e2 : s = s.take j ++ (t :: s.drop (j + 1)) := by
    have := List.take_append_drop j s
    rw [List.drop_eq_getElem_cons hj, (List.getElem?_eq_some_iff.mp f).2] at this
    exact this.symm
  have c1 : ss.flatten.count t = (ss.take i).flatten.count t + (s.count t + (ss.drop (i + 1)).flatten.count t) := by
    conv => lhs; rw [e1]
    rw [List.flatten_append, List.flatten_cons, List.count_append, List.count_append]
  have c2 : s.count t = (s.take j).count t + ((s.drop (j + 1)).count t + 1) := by
    conv => lhs; rw [e2]
    rw [List.count_append, List.count_cons_self]
  rw [List.count_append, c1, c2]
  omega
theorem flat_take {ss : List (List Int)} {i : Nat} {s : List Int} (e : ss[i]? = some s) : (ss.take (i + 1)).flatten = (ss.take i).flatten ++ s := by
  rw [List.take_add_one, e, List.flatten_append]
  simp
theorem zeros {ss : List (List Int)} {k : Nat} (h : Good ss k) : (12 : Int) - (((cntOf ss.flatten).count 0 : Nat) : Int) = (k : Int) := by
  have e : (cntOf ss.flatten).count 0 = (List.range 12).countP fun t => !decide (t < k) := by
    unfold cntOf
    rw [List.count_eq_countP, List.countP_map]
    apply List.countP_congr
    intro t ht
    have ht := List.mem_range.mp ht
    have := h.all t ht
    simp only [Function.comp, beq_iff_eq, Bool.not_eq_true', decide_eq_false_iff_not]
    omega
  rw [e]
  have hk := h.k12
  have : ∀ k, k ≤ 12 → (List.range 12).countP (fun t => !decide (t < k)) = 12 - k := by decide
  rw [this k hk]
  omega
theorem none_zero {ss : List (List Int)} {k : Nat} (h : Good ss k) : inV (.int 0) (cutV ((cntOf ss.flatten).map V.int) none (some (k : Int))) = false := by
  unfold cutV
  rw [HT.sIx_none, HT.sIx_nat, List.length_map, cntOf_len, Nat.min_eq_left h.k12, List.drop_zero, Nat.sub_zero]
  unfold inV
  rw [List.any_eq_false]
  intro y hy
  obtain ⟨j, hj, rfl⟩ := List.mem_iff_getElem.mp hy
  have hjk : j < k := by rw [List.length_take] at hj; omega
  have hj12 : j < 12 := by have := h.k12; omega
  have g := cntOf_get ss.flatten hj12
  have gl : j < (cntOf ss.flatten).length := by rw [cntOf_len]; exact hj12
  rw [List.getElem_take, List.getElem_map]
  rw [List.getElem?_eq_getElem gl] at g
  rw [Option.some.inj g]
  have := (h.all j hj12).mpr hjk
  show ¬ ((((ss.flatten.count (j : Int) : Nat) : Int) == 0) = true)
  simp only [beq_iff_eq]
  omega
theorem setB_mem {s : List Int} (h : setB 12 s = true) {t : Int} (ht : t ∈ s) : 0 ≤ t ∧ t < 12 := by
  unfold setB at h
  rw [Bool.and_eq_true] at h
  have := List.all_eq_true.mp h.1 t ht
  unfold inB at this
  simpa using this
def spCheck (K : PySem.W.Frag) : Sp := fun vs H Q _ => ∃ (a : Addr) (xs : List V) (ss : List (List Int)) (k : Nat), vs = [.ref a] ∧ SqA K H a xs ∧ Stars K H xs ss ∧ Good ss k ∧ (∀ s ∈ ss, s.length ≤ 100) ∧ ∀ H', Same H H' → Q .non H'
theorem scCheck : FnScope ["stars", "counts", "before", "place", "star", "tie", "many"] ["stars"] (defScope sCheck) := ⟨rfl, rfl, rfl, by decide +kernel, rfl, by decide +kernel, by decide +kernel⟩
theorem ok_check {f fS : Addr} {fd fdS : FuncData} {tk : Tok} (F : Fun K "check_stars" "check_stars" sCheck f fd) (GS : FnOk P w K mg base CX0 2 fS fdS ["value", "many"] (spSet K)) (gS : mg "is_set" = some (.ref fS)) (kS : PySem.W.keepIn K (.ref fS) = true) (bS : Binds K fdS ["value", "many"] [])
    (gM : mg "MOST_TIES" = some (.int 12 tk)) (mis : mg "isinstance" = none) (mli : mg "list" = none) (mt : mg "tuple" = none) (men : mg "enumerate" = none) (mle : mg "len" = none) : FnOk P w K mg base CX0 3 f fd ["stars"] (spCheck K) := by
  refine F.ok scCheck (fun vs H Q E h => ?_) (fun cdv A outer s H vs Q E hr h => ?_)
  · obtain ⟨a, xs, ss, k, rfl, _⟩ := h
    rfl
  · obtain ⟨a, xs, ss, k, rfl, hS, hX, hG, hL, q⟩ := h
    refine ⟨_, pss_cons (ps_if (pt_not (pt_val (pe_callB call_isiT (by rfl) mis (by decide +kernel) (pa_cons (pv 0) (pa_cons (pe_tup (pa_cons (pe_bltn (v := .ty "list") (u := .type "list") (by rfl) mli (by decide +kernel) rfl) (pa_cons (pe_bltn (v := .ty "tuple") (u := .type "tuple") (by rfl) mt (by decide +kernel) rfl) pa_nil))) pa_nil))))) (pss_one ps_never) pss_nil)
      (pss_cons (ps_set (i := 1) scCheck.nd rfl (.inl rfl) (pe_op op_rep (pe_lst (pa_cons pe_int pa_nil)) (pe_glob (v := .int 12) (by rfl) gM ⟨tk, rfl⟩)))
      (pss_cons (ps_set (i := 2) scCheck.nd rfl (.inl rfl) (pe_tup pa_nil))
      (pss_cons (ps_for PassesOwn.never rfl (pi_enumA (by rfl) men (pa_cons (pv 0) pa_nil)) (pg_tup rfl (pgs_cons (pg_name (i := 3) scCheck.nd rfl (.inl rfl)) (pgs_cons (pg_name (i := 4) scCheck.nd rfl (.inl rfl)) pgs_nil)))
        (pss_cons (ps_if (PW.pt (pw_or (pt_not (pt_val (pe_call GS hr (by rfl) gS kS bS .nil pass0 (pa_cons (pv 4) (pa_cons (pe_glob (v := .int 12) (by rfl) gM ⟨tk, rfl⟩) pa_nil)))))
            (pw_or (pt_cmpR op_eq (pe_callB call_len_seq (by rfl) mle PySem.boot_len (pa_cons (pv 4) pa_nil)) pe_int (nomark _)) (pw_or1 (pt_cmpR (op_ltT hr.units0) (pv 4) (pv 2) (nomark _)))))) (pss_one ps_never) pss_nil)
        (pss_cons (ps_for PassesOwn.never rfl (pi_tup (pv 4)) (pg_name (i := 5) scCheck.nd rfl (.inl rfl))
          (pss_cons (ps_if (pt_cmpR op_eq (pe_ix ix_list (pv 1) (pv 5) (fun _ _ => rfl)) pe_int (nomark _)) (pss_one ps_never) pss_nil)
          (pss_one (ps_augS (pv 1) (pv 5) get_list pe_int ip_add set_list))))
        (pss_one (ps_set (i := 2) scCheck.nd rfl (.inl rfl) (pv 4))))))
      (pss_cons (ps_set (i := 6) scCheck.nd rfl (.inl rfl) (pe_op op_sub (pe_glob (v := .int 12) (by rfl) gM ⟨tk, rfl⟩) (pe_bm PySem.F.plainAttrs_list PySem.F.slot_list_count PySem.F.type_list_count mt_lcount (pv 1) (pa_cons pe_int pa_nil))))
      (pss_one (ps_if (pt_cmpR op_in_seq pe_int (pe_slice sl_list (pv 1) po_none (po_some (pv 6))) (by rfl)) (pss_one ps_never) pss_nil)))))), ?_⟩
    -- isinstance(stars, (list, tuple))
    refine ⟨_, rfl, by show 2 ≤ sizeLine; decide, fun p np => ?_⟩
    have s0 := same_new (o := .tup [V.ty "list", V.ty "tuple"]) np
    have ep : (upd H p (.tup [V.ty "list", V.ty "tuple"])) p = some (.tup [V.ty "list", V.ty "tuple"]) := upd_same
    generalize upd H p (.tup [V.ty "list", V.ty "tuple"]) = H0 at s0 ep ⊢
    obtain ⟨t, ty, kt⟩ := kit2 (hS.same s0)
    refine ⟨_, p, _, t, _, true, rfl, ep, .cons (.ty "list") (.cons (.ty "tuple") .nil), ty, kt, true, rfl, ite_ff ?_⟩
    -- counts, before
    refine ⟨by show 1 ≤ sizeLine; decide, fun z nz => ⟨z, 12, [.int 0], rfl, rfl, upd_same, by decide, by decide, by show 12 ≤ sizeLine; decide, fun D nD => ?_⟩⟩
    replace s0 := s0.trans (same_new (o := .lst [V.int 0]) nz)
    generalize upd H0 z (.lst [V.int 0]) = H1 at s0 nD ⊢
    have nHD : H D = none := s0.free nD
    refine ⟨Nat.zero_le _, fun b nb => ?_⟩
    have eD : (upd (upd H1 D (.lst (List.replicate (12 : Int).toNat [V.int 0]).flatten)) b (.tup [])) D = some (.lst ((cntOf []).map V.int)) := by
      rw [upd_ne (ne_of_none upd_same nb), upd_same]
      rfl
    replace s0 := (s0.trans (same_new (o := .lst (List.replicate (12 : Int).toNat [V.int 0]).flatten) nD)).trans (same_new (o := .tup []) nb)
    have eb : SqT K (upd (upd H1 D (.lst (List.replicate (12 : Int).toNat [V.int 0]).flatten)) b (.tup [])) b (([] : List Int).map V.int) := SqT.of upd_same
    generalize upd (upd H1 D (.lst (List.replicate (12 : Int).toNat [V.int 0]).flatten)) b (.tup []) = H2 at s0 eD eb ⊢
    -- for place, star in enumerate(stars)
    show tFor (iEnumA K (tCons (tVar 0) tNil)) _ _ _ [some (.ref a), some (.ref D), some (.ref b), none, none, none, none] H2
    unfold tFor
    refine enum_var (i := 0) rfl hS s0 (fun J G w hJ => ?_)
    refine for_it w (fun i σ H' => ∃ (b : Addr) (y3 y4 y5 : Option V), σ = [some (.ref a), some (.ref D), some (.ref b), y3, y4, y5, none] ∧ Same H H' ∧ H' D = some (.lst ((cntOf (ss.take i).flatten).map V.int)) ∧ SqT K H' b ((prev ss i).map V.int))
      ⟨b, none, none, none, rfl, s0, eD, eb⟩ (fun i σ H' _ hp => ?_) (fun i x σ H3 H4 hi hp hy => ?_) (fun σ H3 hp => ?_)
    · obtain ⟨_, _, _, _, _, s, _⟩ := hp
      exact hJ _ s
    · obtain ⟨b, y3, y4, y5, rfl, s3, e3, b3⟩ := hp
      obtain ⟨T, x1, x2, rfl, nT, rfl, f1, f2⟩ := hy
      cases f1
      have f2 : xs[i]? = some x2 := f2
      rw [hX.1] at hi
      have gs : ss[i]? = some ss[i] := List.getElem?_eq_getElem hi
      generalize ss[i] = st at gs
      obtain ⟨sa, f3, hsa⟩ := hX.2 i st gs
      rw [f3] at f2
      cases f2
      have mem : st ∈ ss := List.mem_of_getElem? gs
      have hne := hG.ne st mem
      have hst := hG.st st mem
      have nDT : D ≠ T := ne_of_none e3 nT
      refine ⟨T, _, rfl, .inl (.inl upd_same), rfl, _, _, rfl, _, _, rfl, rfl, ?_⟩
      replace e3 := same_new (o := .tup [.int (i : Nat), .ref sa]) nT _ _ e3
      replace b3 := same_tup (same_new (o := .tup [.int (i : Nat), .ref sa]) nT) b3
      replace s3 := s3.trans (same_new (o := .tup [.int (i : Nat), .ref sa]) nT)
      generalize upd H3 T (.tup [.int (i : Nat), .ref sa]) = H4 at s3 e3 b3 ⊢
      -- not is_set(star, MOST_TIES) or len(star) == 0 or star < before
      refine ⟨_, rfl, sa, st, 12, rfl, same_tup s3 hsa, hne, hL st mem, fun H5 s5 => ?_⟩
      refine ⟨true, by rw [hst], ite_ff ?_⟩
      replace e3 := s5 _ _ e3
      replace b3 := same_tup s5 b3
      replace s3 := s3.trans s5
      have hsa5 := same_tup s3 hsa
      refine ⟨_, rfl, sa, _, rfl, .inr hsa5, rfl, _, rfl, ite_cf ?_ ?_⟩
      · rw [List.length_map]
        have : st.length ≠ 0 := fun z => hne (List.length_eq_zero_iff.mp z)
        simp only [decide_eq_false_iff_not, V.int.injEq]
        omega
      refine ⟨_, rfl, _, rfl, sa, b, _, _, rfl, rfl, hsa5, b3, _, rfl, ite_cf (prev_le hG gs hne) ?_⟩
      -- for tie in star
      refine ⟨_, rfl, sa, rfl, ⟨_, hsa5⟩, ?_⟩
      refine for_it (walk_tup (xs := st.map V.int)) (fun j σ H' => ∃ (y5 : Option V), σ = [some (.ref a), some (.ref D), some (.ref b), some (.int (i : Nat)), some (.ref sa), y5, none] ∧ Same H H' ∧ H' D = some (.lst ((cntOf ((ss.take i).flatten ++ st.take j)).map V.int)))
        ⟨y5, rfl, s3, by rw [List.take_zero, List.append_nil]; exact e3⟩ (fun j σ H' _ hp => ?_) (fun j x σ H6 H7 hj hp hy => ?_) (fun σ H6 hp => ?_)
      · obtain ⟨_, _, s, _⟩ := hp
        exact same_tup s hsa
      · obtain ⟨y5, rfl, s6, e6⟩ := hp
        obtain ⟨rfl, hx⟩ := hy
        rw [List.getElem?_map] at hx
        cases ht : st[j]? with
        | none => rw [ht] at hx; cases hx
        | some t =>
          rw [ht] at hx
          cases hx
          have mt := List.mem_of_getElem? ht
          obtain ⟨t0, t1⟩ := setB_mem hst mt
          obtain ⟨n, rfl⟩ := Int.eq_ofNat_of_zero_le t0
          have hn : n < 12 := by omega
          have g := cntOf_get ((ss.take i).flatten ++ st.take j) hn
          have hc := pre_count gs ht
          have h2 := hG.two (n : Int)
          refine ⟨_, rfl, _, rfl, D, _, _, _, rfl, rfl, SqL.of e6, atI_nat (map_get g), rfl, _, rfl, ite_cf ?_ ?_⟩
          · simp only [decide_eq_false_iff_not, V.int.injEq]
            omega
          refine ⟨_, rfl, _, rfl, D, _, _, _, rfl, rfl, SqL.of e6, by omega, atI_nat (map_get g), _, _, rfl, rfl, D, _, _, n, rfl, rfl, e6, (by rw [List.length_map, cntOf_len]; exact ixN_nat hn), ?_⟩
          refine ⟨_, rfl, same_upd s6 nHD, ?_⟩
          rw [upd_same, List.take_add_one, ht, ← List.append_assoc]
          show _ = some (HO.lst ((cntOf ((ss.take i).flatten ++ st.take j ++ [((n : Nat) : Int)])).map V.int))
          rw [cntOf_add _ hn, List.map_set]
      · obtain ⟨y5, rfl, s6, e6⟩ := hp
        rw [List.length_map, List.take_length] at e6
        refine ⟨_, rfl, sa, _, _, _, rfl, s6, by rw [flat_take gs]; exact e6, ?_⟩
        show SqT K H6 sa (((ss[i]?).getD []).map V.int)
        rw [gs]
        exact same_tup s6 hsa
    · obtain ⟨b, y3, y4, y5, rfl, s3, e3, b3⟩ := hp
      rw [hX.1, List.take_length] at e3
      -- many = MOST_TIES - counts.count(0)
      refine ⟨_, rfl, .inl ⟨rfl, _, SqL.of e3⟩, D, _, _, rfl, rfl, SqL.of e3, _, _, rfl, rfl, ?_⟩
      -- 0 in counts[:many]
      refine ⟨_, rfl, _, rfl, _, rfl, D, _, rfl, SqL.of e3, fun p2 np2 => ?_⟩
      refine ⟨p2, _, rfl, .inl (SqL.of upd_same), rfl, ?_, _, rfl, ite_cf (by show inV (.int 0) (cutV _ none (some ((12 : Int) - (((cntOf ss.flatten).count 0 : Nat) : Int)))) = false; rw [zeros hG]; exact none_zero hG) ?_⟩
      · rw [List.all_eq_true]
        intro y hy
        unfold cutV at hy
        have hy := List.mem_of_mem_drop (List.mem_of_mem_take hy)
        obtain ⟨c, _, rfl⟩ := List.mem_map.mp hy
        rfl
      exact q _ (s3.trans (same_new np2))
end
end Sg

/-! max(xs, default=d), xs a list of whole numbers. -/
namespace Sg
open PySem PySem.Spec PyProof.Rows L2 PySem.W
section
variable {prog : Program} {w : World} {A : Around} {E : Value → Shared → Prop} {s : Shared} {l : Addr} {its : List Value} {ns : List Int} {Q : Value → Shared → Prop}
theorem max_rawD {d : Value} (hh : A.handled = none) (hl : s.heap.IsList l its.toArray) (hi : IntsAre its ns)
    (h0 : ns = [] → ∀ h' tk, (∀ b o, s.heap.get? b = some o → h'.get? b = some o) → Q d { s with heap := h', toks := tk })
    (h : ∀ h' tk M t', (∀ b o, s.heap.get? b = some o → h'.get? b = some o) → M ∈ ns → (∀ a, a ∈ ns → a ≤ M) → Q (.int M t') { s with heap := h', toks := tk }) : wpAny (model prog w) A (call (.builtin "max") [.ref l] [(Str.ofString "default", d)]) Q E s := by
  obtain ⟨xs, e⟩ := hi.allInts.items
  have hn : numsOf (intItems xs).toList = ns := by rw [← e]; exact hi.numsOf
  rw [nums_intItems] at hn
  subst hn
  rw [e] at hl
  have hsz : (intItems xs).size = xs.size := by simp [intItems]
  refine call_max_walkD (iter_listW (A := A.in1) hh hl fun s₂ e W st hfp hw hk => ?_)
  refine ⟨_, _, _, _, _, _, _, s.heap, _, rfl, W, st, hfp, hw, hk, fun hz s' m => ?_, fun hp => ⟨fun i j vi vj s Q E _ hi hj q => CmpOf.ints_gt (numAt xs) (fun _ _ => intItems_at) i j vi vj s Q E hi hj q, fun v s' hP m => ?_⟩⟩
  · obtain ⟨h', tk, rfl, hk'⟩ := moved_old e rfl m
    exact h0 (List.eq_nil_of_length_eq_zero (by rw [List.length_map, Array.length_toList]; omega)) h' tk hk'
  · obtain ⟨h', tk, rfl, hk'⟩ := moved_old e rfl m
    rw [hsz] at hP hp
    obtain ⟨t, rfl⟩ := intItems_at hP
    obtain ⟨h1, h2⟩ := argBest_gt (numAt xs) (xs.size - 1)
    refine h h' tk _ t hk' ?_ fun a ha => ?_
    · rw [numAt_eq]; exact PySem.getD_mem (by rw [List.length_map, Array.length_toList]; omega)
    · obtain ⟨j, hj, rfl⟩ := mem_getD ha
      rw [List.length_map, Array.length_toList] at hj
      rw [← numAt_eq]; exact h2 j (by omega)
end
def rMaxD (K : PySem.W.Frag) : List V → List V → Hp → VK → Prop := fun vs zs H Q => ∃ (a : Addr) (ns : List Int) (d : V), vs = [V.ref a] ∧ zs = [d] ∧ SqL K H a (ns.map V.int) ∧
  (ns = [] → Q d H) ∧ ∀ m, m ∈ ns → (∀ n, n ∈ ns → n ≤ m) → Q (.int m) H
theorem cr_maxD {X : Cx} (hc : X.calm = true) : CallRK X (.builtin "max") ["default"] (rMaxD X.K) := by
  intro pins s σ H vs zs us ws Q I r rz h
  obtain ⟨a, ns, d, rfl, rfl, hs, h0, h1⟩ := h
  obtain ⟨its, rv, hl, _⟩ := I.list hs
  rw [Vals.ref1 r]
  obtain ⟨u, rfl, ru⟩ := vals1 rz
  exact max_rawD (I.ok.hd hc) hl.isList rv.ints (fun e h' tk hk => ⟨d, H, I.kept hk, ru, h0 e⟩) fun h' tk m t' hk m1 m2 => ⟨.int _, H, I.kept hk, ⟨_, rfl⟩, h1 m m1 m2⟩
end Sg

/-! sides_of where the stars are right. -/
namespace Sg
open PySem PySem.Spec PyProof.Rows L2 RZ
abbrev sSides : Stmt := topS 17
/-- each place with each of its ties, in their order -/
def tagN : Nat → List (List Int) → List (Nat × Int)
  | _, [] => []
  | n, s :: r => s.map (fun t => (n, t)) ++ tagN (n + 1) r
theorem tagN_snoc : ∀ (n : Nat) (l : List (List Int)) (s : List Int), tagN n (l ++ [s]) = tagN n l ++ s.map (fun t => (n + l.length, t))
  | n, [], s => by simp [tagN]
  | n, x :: r, s => by
    show x.map _ ++ tagN (n + 1) (r ++ [s]) = _
    rw [tagN_snoc (n + 1) r s]
    show _ = (x.map _ ++ tagN (n + 1) r) ++ _
    rw [List.append_assoc, List.length_cons, show n + 1 + r.length = n + (r.length + 1) by omega]
theorem tagN_ties : ∀ (n : Nat) (l : List (List Int)), (tagN n l).map (·.2) = l.flatten
  | _, [] => rfl
  | n, s :: r => by
    show (s.map _ ++ tagN (n + 1) r).map _ = _
    rw [List.map_append, tagN_ties (n + 1) r, List.map_map, List.flatten_cons, show ((fun (x : Nat × Int) => x.2) ∘ fun t => (n, t)) = id from rfl, List.map_id]
theorem tagN_take {ss : List (List Int)} {i : Nat} {s : List Int} (e : ss[i]? = some s) : tagN 0 (ss.take (i + 1)) = tagN 0 (ss.take i) ++ s.map (fun t => (i, t)) := by
  have hi := (List.getElem?_eq_some_iff.mp e).1
  rw [List.take_add_one, e]
  show tagN 0 (ss.take i ++ [s]) = _
  rw [tagN_snoc, List.length_take, Nat.min_eq_left (by omega), Nat.zero_add]
/-- the places of the tie t -/
def pls (l : List (Nat × Int)) (t : Int) : List Int := (l.filter (fun p => p.2 == t)).map (fun p => (p.1 : Int))
theorem pls_same (l : List (Nat × Int)) (i : Nat) (t : Int) : pls (l ++ [(i, t)]) t = pls l t ++ [(i : Int)] := by
  unfold pls
  rw [List.filter_append, List.map_append]
  simp
theorem pls_ne (l : List (Nat × Int)) (i : Nat) {t u : Int} (h : t ≠ u) : pls (l ++ [(i, t)]) u = pls l u := by
  unfold pls
  rw [List.filter_append, List.map_append]
  simp [h]
theorem pls_len (l : List (Nat × Int)) (t : Int) : (pls l t).length = (l.map (·.2)).count t := by
  unfold pls
  rw [List.length_map, List.count_eq_countP, List.countP_map, List.countP_eq_length_filter]
  rfl
/-- ties rise within a star -/
theorem setB_lt {s : List Int} (h : setB 12 s = true) : ∀ (j i : Nat) (x y : Int), i < j → s[i]? = some x → s[j]? = some y → x < y
  | 0, _, _, _, z, _, _ => absurd z (Nat.not_lt_zero _)
  | j + 1, i, x, y, hij, hx, hy => by
    have hj := (List.getElem?_eq_some_iff.mp hy).1
    have g : s[j]? = some s[j] := List.getElem?_eq_getElem (by omega)
    unfold setB at h
    rw [Bool.and_eq_true] at h
    have h2 := List.all_eq_true.mp h.2 (ltB s j) (List.mem_map.mpr ⟨j, List.mem_range.mpr (by omega), rfl⟩)
    have h3 : ltB s j = true := h2
    unfold ltB at h3
    rw [g, hy] at h3
    have h4 : s[j] < y := by simpa using h3
    by_cases e : i = j
    · subst e
      rw [g] at hx
      cases hx
      exact h4
    · have := setB_lt (by unfold setB; rw [Bool.and_eq_true]; exact h) j i x s[j] (by omega) hx g
      omega
theorem setB_last {s : List Int} (h : setB 12 s = true) {l x : Int} (hl : s[s.length - 1]? = some l) (hx : x ∈ s) : x ≤ l := by
  obtain ⟨i, hi, rfl⟩ := List.mem_iff_getElem.mp hx
  by_cases e : i = s.length - 1
  · rw [List.getElem?_eq_getElem (by omega)] at hl
    have := Option.some.inj hl
    simp only [← e] at this
    omega
  · have := setB_lt h (s.length - 1) i s[i] l (by omega) (List.getElem?_eq_getElem hi) hl
    omega
theorem Good.lt {ss : List (List Int)} {k : Nat} (h : Good ss k) {s : List Int} {t : Int} (hs : s ∈ ss) (ht : t ∈ s) : ∃ n : Nat, t = n ∧ n < k := by
  obtain ⟨t0, t1⟩ := setB_mem (h.st s hs) ht
  obtain ⟨n, rfl⟩ := Int.eq_ofNat_of_zero_le t0
  refine ⟨n, rfl, (h.all n (by omega)).mp ?_⟩
  exact List.count_pos_iff.mpr (List.mem_flatten.mpr ⟨s, hs, ht⟩)
theorem Good.some {ss : List (List Int)} {k : Nat} (h : Good ss k) {n : Nat} (hn : n < k) : ∃ s ∈ ss, (n : Int) ∈ s := by
  have h12 := h.k12
  have := (h.all n (by omega)).mpr hn
  exact List.mem_flatten.mp (List.count_pos_iff.mp this)
def lastOf (s : List Int) : Int := (s[s.length - 1]?).getD 0
theorem lastOf_get {s : List Int} (h : s ≠ []) : s[s.length - 1]? = some (lastOf s) := by
  have : s.length - 1 < s.length := by
    have : s.length ≠ 0 := fun z => h (List.length_eq_zero_iff.mp z)
    omega
  unfold lastOf
  rw [List.getElem?_eq_getElem this]; rfl
/-- max(.., default=0) tells the number of ties -/
theorem many_of {ss : List (List Int)} {k : Nat} (h : Good ss k) : (ss.map (fun s => lastOf s + 1) = [] → k = 0) ∧
    ∀ m, m ∈ ss.map (fun s => lastOf s + 1) → (∀ n, n ∈ ss.map (fun s => lastOf s + 1) → n ≤ m) → m = k := by
  refine ⟨fun e => ?_, fun m hm hall => ?_⟩
  · have e := List.map_eq_nil_iff.mp e
    rcases Nat.eq_zero_or_pos k with z | z
    · exact z
    · obtain ⟨s, hs, _⟩ := h.some z
      rw [e] at hs
      cases hs
  · obtain ⟨s, hs, rfl⟩ := List.mem_map.mp hm
    have gl := lastOf_get (h.ne s hs)
    obtain ⟨n, en, hn⟩ := h.lt hs (List.mem_of_getElem? gl)
    obtain ⟨s', hs', ht'⟩ := h.some (n := k - 1) (by omega)
    have h1 := setB_last (h.st s' hs') (lastOf_get (h.ne s' hs')) ht'
    have h2 := hall (lastOf s' + 1) (List.mem_map.mpr ⟨s', hs', rfl⟩)
    omega
theorem ix_listK {X : Cx} {K : PySem.W.Frag} (h : X.K = K) : IxR X (rIxL K) := by subst h; exact ix_list
theorem ix_tupK {X : Cx} {K : PySem.W.Frag} (h : X.K = K) : IxR X (rIxT K) := by subst h; exact ix_tup
/-- the ends of the tie t: its first and its last place -/
def endOf (ss : List (List Int)) (t : Nat) : Int × Int := (((pls (tagN 0 ss) t)[0]?).getD 0, ((pls (tagN 0 ss) t)[(pls (tagN 0 ss) t).length - 1]?).getD 0)
/-- at q: for each tie the pair of its ends -/
def SidesAt (K : PySem.W.Frag) (H : Hp) (q : Addr) (ss : List (List Int)) (k : Nat) : Prop :=
  ∃ as : List Addr, as.length = k ∧ SqT K H q (as.map V.ref) ∧ ∀ (t : Nat) (a : Addr), as[t]? = some a → SqT K H a [.int (endOf ss t).1, .int (endOf ss t).2]
theorem SidesAt.same {K : PySem.W.Frag} {H H' : Hp} {q : Addr} {ss : List (List Int)} {k : Nat} (h : SidesAt K H q ss k) (s : Same H H') : SidesAt K H' q ss k :=
  let ⟨as, h1, h2, h3⟩ := h; ⟨as, h1, same_tup s h2, fun t a e => same_tup s (h3 t a e)⟩
section
variable {P : Program} {w : World} {K : PySem.W.Frag} {mg : Str → Option Value} {base : Heap}
theorem at_last {s : List Int} (h : s ≠ []) : atI (s.map V.int) (-1) = some (V.int (lastOf s)) := by
  have hl : s.length ≠ 0 := fun z => h (List.length_eq_zero_iff.mp z)
  have e : ixN (s.map V.int).length (-1) = some (s.length - 1) := by
    rw [List.length_map]
    unfold ixN
    rw [if_neg (by decide), if_pos (by omega)]
    congr 1
    omega
  unfold atI
  rw [e]
  exact map_get (lastOf_get h)
theorem rMaxD_of {H : Hp} {D : Addr} {ss : List (List Int)} {k : Nat} {Q : VK} (h : Good ss k) (e : H D = some (.lst (ss.map fun s => V.int (lastOf s + 1)))) (q : Q (.int (k : Nat)) H) : rMaxD K [.ref D] [.int 0] H Q := by
  obtain ⟨m0, m1⟩ := many_of h
  refine ⟨D, ss.map (fun s => lastOf s + 1), .int 0, rfl, rfl, SqL.of (by rw [List.map_map]; exact e), fun z => ?_, fun m a b => ?_⟩
  · have := m0 z
    subst this
    exact q
  · rw [m1 m a b]
    exact q
theorem for_enumA {σ : L2.St} {Hb H : Hp} {g : TG} {tb : TS} {D : Ends} {i : Nat} {a : Addr} {xs : List V} (hσ : σ[i]? = some (some (.ref a))) (h : SqA K Hb a xs) (s : Same Hb H) (Pv : Nat → L2.St → Hp → Prop) (h0 : Pv 0 σ H)
    (hG : ∀ i σ H', Pv i σ H' → Same Hb H')
    (hs : ∀ i x σ H H', i < xs.length → Pv i σ H → YPair (fun i => some (.int (i : Nat))) (fun i => xs[i]?) i H x H' → g x σ H' fun σ2 H2 => tb { D with nx := Pv (i + 1), ct := Pv (i + 1), bk := D.nx } σ2 H2) (hd : ∀ σ H, Pv xs.length σ H → D.nx σ H) :
    tFor (iEnumA K (tCons (tVar i) tNil)) g tb D σ H := enum_var hσ h s fun _ _ w hJ => for_it w Pv h0 (fun i σ H _ p => hJ _ (hG i σ H p)) hs hd
def spSides (K : PySem.W.Frag) : Sp := fun vs H Q _ => ∃ (a : Addr) (xs : List V) (ss : List (List Int)) (k : Nat), vs = [.ref a] ∧ SqT K H a xs ∧ Stars K H xs ss ∧ Good ss k ∧
  ∀ H' q, Same H H' → H q = none → SidesAt K H' q ss k → Q (.ref q) H'
theorem scSides : FnScope ["stars", "star", "many", "tie", "places", "place", "at"] ["stars"] (defScope sSides) := ⟨rfl, rfl, rfl, by decide +kernel, rfl, by decide +kernel, by decide +kernel⟩
/-- what stands while the places are gathered -/
structure Plc (H H' : Hp) (D : Addr) (pl : List Addr) (k : Nat) (l : List (Nat × Int)) : Prop where
  s : Same H H'
  d : H' D = some (.lst (pl.map V.ref))
  nd : H D = none
  k : pl.length = k
  inj : ∀ (i j : Nat) (a : Addr), pl[i]? = some a → pl[j]? = some a → i = j
  at_ : ∀ (i : Nat) (a : Addr), pl[i]? = some a → H a = none ∧ a ≠ D ∧ H' a = some (.lst ((pls l (i : Int)).map V.int))
theorem Plc.same {H H' H2 : Hp} {D : Addr} {pl : List Addr} {k : Nat} {l : List (Nat × Int)} (p : Plc H H' D pl k l) (s : Same H' H2) : Plc H H2 D pl k l :=
  ⟨p.s.trans s, s _ _ p.d, p.nd, p.k, p.inj, fun i a e => let ⟨h1, h2, h3⟩ := p.at_ i a e; ⟨h1, h2, s _ _ h3⟩⟩
theorem Plc.add {H H' : Hp} {D a : Addr} {pl : List Addr} {k n t : Nat} {l : List (Nat × Int)} (p : Plc H H' D pl k l) (e : pl[t]? = some a) : Plc H (upd H' a (.lst ((pls l (t : Int)).map V.int ++ [.int n]))) D pl k (l ++ [(n, (t : Int))]) := by
  obtain ⟨h1, h2, h3⟩ := p.at_ t a e
  refine ⟨same_upd p.s h1, by rw [upd_ne (Ne.symm h2)]; exact p.d, p.nd, p.k, p.inj, fun i b f => ?_⟩
  obtain ⟨g1, g2, g3⟩ := p.at_ i b f
  refine ⟨g1, g2, ?_⟩
  by_cases z : b = a
  · subst z
    have := p.inj i t b f e
    subst this
    rw [upd_same, pls_same, List.map_append]
    rfl
  · have : t ≠ i := fun q => z (by subst q; rw [f] at e; exact Option.some.inj e)
    rw [upd_ne z, pls_ne _ _ (by omega)]
    exact g3
theorem Plc.grow {H H' : Hp} {D p : Addr} {pl : List Addr} {k : Nat} (P : Plc H H' D pl k []) (np : H' p = none) : Plc H (upd (upd H' p (.lst [])) D (.lst (pl.map V.ref ++ [V.ref p]))) D (pl ++ [p]) (k + 1) [] := by
  have nDp : D ≠ p := ne_of_none P.d np
  have hp : H p = none := P.s.free np
  have old : ∀ (i : Nat) (a : Addr), pl[i]? = some a → a ≠ p := fun i a e => ne_of_none (P.at_ i a e).2.2 np
  have cut : ∀ (i : Nat) (a : Addr), (pl ++ [p])[i]? = some a → pl[i]? = some a ∨ (i = pl.length ∧ a = p) := fun i a e => by
    by_cases h : i < pl.length
    · rw [List.getElem?_append_left h] at e
      exact .inl e
    · rw [List.getElem?_append_right (by omega)] at e
      have hi := (List.getElem?_eq_some_iff.mp e).1
      simp only [List.length_singleton] at hi
      have : i - pl.length = 0 := by omega
      rw [this] at e
      exact .inr ⟨by omega, (Option.some.inj e).symm⟩
  refine ⟨same_upd (same_upd P.s hp) P.nd, by rw [upd_same, List.map_append]; rfl, P.nd, by rw [List.length_append, P.k]; rfl, fun i j a e f => ?_, fun i a e => ?_⟩
  · rcases cut i a e with h | ⟨h, h'⟩
    · rcases cut j a f with g | ⟨g, g'⟩
      · exact P.inj i j a h g
      · exact absurd g' (old i a h)
    · rcases cut j a f with g | ⟨g, g'⟩
      · exact absurd h' (old j a g)
      · rw [h, g]
  · rcases cut i a e with h | ⟨h, h'⟩
    · obtain ⟨g1, g2, g3⟩ := P.at_ i a h
      exact ⟨g1, g2, by rw [upd_ne g2, upd_ne (old i a h)]; exact g3⟩
    · subst h'
      exact ⟨hp, Ne.symm nDp, by rw [upd_ne (Ne.symm nDp), upd_same]; rfl⟩
theorem at_first {l : List Int} (h : l ≠ []) : atI (l.map V.int) 0 = some (V.int ((l[0]?).getD 0)) := by
  cases l with
  | nil => exact absurd rfl h
  | cons x r => exact atI_nat (j := 0) rfl
theorem ok_sides {f : Addr} {fd : FuncData} (F : Fun K "sides_of" "sides_of" sSides f fd) (mma : mg "max" = none) (mra : mg "range" = none) (men : mg "enumerate" = none) (mt : mg "tuple" = none) : FnOk P w K mg base CX0 1 f fd ["stars"] (spSides K) := by
  refine F.ok scSides (fun vs H Q E h => ?_) (fun cdv A outer s H vs Q E hr h => ?_)
  · obtain ⟨a, xs, ss, k, rfl, _⟩ := h
    rfl
  · obtain ⟨a, xs, ss, k, rfl, hS, hX, hG, q⟩ := h
    refine ⟨_, pss_cons (ps_set (i := 2) scSides.nd rfl (.inl rfl) (pe_callBK (id := "max") (cr_maxD rfl) (by rfl) mma (by decide +kernel) (pa_cons (pe_lc (own := [("star", 1)]) (g := gName 1) (tt := tYes) (by rfl) scSides.nd (pi_tup (pv 0)) (blkOk_by (own := [("star", 1)]) (N := ["stars", "star", "many", "tie", "places", "place", "at"]) (sc := defScope sSides) (by decide +kernel))
          (fun _ _ _ _ _ => pg_name (i := 1) scSides.nd rfl (Or.inl rfl)) (fun _ _ _ _ _ => pts_nil) (fun _ _ _ _ _ => pe_op op_add (pe_ix (ix_tupK (K := K) rfl) (pv 1) (pe_un un_neg pe_int) (fun _ _ => rfl)) pe_int)) pa_nil) (pk_cons pe_int pk_nil)))
      (pss_cons (ps_setLc (i := 4) (own := [("tie", 3)]) (g := gName 3) (tt := tYes) rfl scSides.nd rfl rfl (sw_true rfl rfl rfl (by decide +kernel)) (pi_range1 (by rfl) mra (pa_cons (pv 2) pa_nil)) (blkOk_by (own := [("tie", 3)]) (N := ["stars", "star", "many", "tie", "places", "place", "at"]) (sc := defScope sSides) (by decide +kernel))
          (fun _ _ _ _ _ => pg_name (i := 3) scSides.nd rfl (Or.inl rfl)) (fun _ _ _ _ _ => pts_nil) (fun _ _ _ _ _ => pe_lst pa_nil))
      (pss_cons (ps_for PassesOwn.never rfl (pi_enumA (by rfl) men (pa_cons (pv 0) pa_nil)) (pg_tup rfl (pgs_cons (pg_name (i := 5) scSides.nd rfl (.inl rfl)) (pgs_cons (pg_name (i := 1) scSides.nd rfl (.inl rfl)) pgs_nil)))
        (pss_one (ps_for PassesOwn.never rfl (pi_tup (pv 1)) (pg_name (i := 3) scSides.nd rfl (.inl rfl))
          (pss_one (ps_expr (pe_bm PySem.F.plainAttrs_list PySem.F.slot_list_append PySem.F.type_list_append mt_append (pe_ix ix_list (pv 4) (pv 3) (fun _ _ => rfl)) (pa_cons (pv 5) pa_nil)))))))
      (pss_one (ps_ret (pe_callTy call_tuple_of (by rfl) mt (by decide +kernel) (pa_cons (pe_lc (own := [("at", 6)]) (g := gName 6) (tt := tYes) (by rfl) scSides.nd (pi_list (pv 4)) (blkOk_by (own := [("at", 6)]) (N := ["stars", "star", "many", "tie", "places", "place", "at"]) (sc := defScope sSides) (by decide +kernel))
          (fun _ _ _ _ _ => pg_name (i := 6) scSides.nd rfl (Or.inl rfl)) (fun _ _ _ _ _ => pts_nil) (fun _ _ _ _ _ => pe_tup (pa_cons (pe_ix (ix_listK (K := K) rfl) (pv 6) pe_int (fun _ _ => rfl)) (pa_cons (pe_ix (ix_listK (K := K) rfl) (pv 6) (pe_un un_neg pe_int) (fun _ _ => rfl)) pa_nil)))) pa_nil)))))), ?_⟩
    -- max([star[-1] + 1 for star in stars], default=0)
    refine ⟨_, rfl, a, rfl, ⟨_, hS⟩, fun D0 nD0 => ?_⟩
    refine lc_tup (K := K) (a := a) (xs := xs) (fun i H' => Same H H' ∧ H' D0 = some (.lst ((ss.take i).map fun s => V.int (lastOf s + 1)))) ⟨same_new nD0, upd_same⟩ (fun i H' _ hp => same_tup hp.1 hS) (fun i x H' hx hp => ?_) (fun H1 hp => ?_)
    · obtain ⟨sm, eD⟩ := hp
      have hi : i < ss.length := by rw [← hX.1]; exact (List.getElem?_eq_some_iff.mp hx).1
      have gs : ss[i]? = some ss[i] := List.getElem?_eq_getElem hi
      generalize ss[i] = st at gs
      obtain ⟨sa, f3, hsa⟩ := hX.2 i st gs
      rw [f3] at hx
      cases hx
      have hne := hG.ne st (List.mem_of_getElem? gs)
      refine ⟨rfl, tyes_ite ?_⟩
      refine ⟨_, rfl, 1, rfl, sa, _, -1, _, rfl, rfl, same_tup sm hsa, at_last hne, _, _, rfl, rfl, ?_⟩
      refine ⟨_, eD, ?_, fun b o e => ?_, ?_⟩
      · rw [List.length_map, List.length_take]; have := hG.n; exact small1000 (by omega)
      · rw [upd_ne (ne_of_none e nD0)]
        exact sm b o e
      · rw [upd_same, List.take_add_one, gs, List.map_append]
        rfl
    obtain ⟨s1, e1⟩ := hp
    rw [hX.1, List.take_length] at e1
    show rMaxD K [.ref D0] [.int 0] H1 _
    refine rMaxD_of hG e1 ?_
    -- places = [[] for tie in range(many)]
    have hk := hG.k12
    refine ⟨_, rfl, k, rfl, by omega, by omega, fun D nD => ?_⟩
    have nHD : H D = none := s1.free nD
    refine lc_range (lo := 0) (n := k) (fun i H' => ∃ pl : List Addr, Plc H H' D pl i []) ⟨[], same_upd s1 nHD, upd_same, nHD, rfl, fun _ _ _ e => by simp at e, fun _ _ e => by simp at e⟩ (fun i H' hi hp => ?_) (fun H2 hp => ?_)
    · obtain ⟨pl, P⟩ := hp
      refine ⟨rfl, tyes_ite ?_⟩
      refine ⟨by show 0 ≤ sizeLine; decide, fun p np => ?_⟩
      refine ⟨_, by rw [upd_ne (ne_of_none P.d np)]; exact P.d, ?_, _, P.grow np⟩
      rw [List.length_map, P.k]; exact small1000 (by omega)
    obtain ⟨pl, P⟩ := hp
    clear e1 s1 nD nD0
    -- for place, star in enumerate(stars)
    show tFor (iEnumA K (tCons (tVar 0) tNil)) _ _ _ [some (.ref a), none, some (.int (k : Nat)), none, some (.ref D), none, none] H2
    refine for_enumA rfl (.inr hS) P.s (fun i σ H' => ∃ (y1 y3 y5 : Option V), σ = [some (.ref a), y1, some (.int (k : Nat)), y3, some (.ref D), y5, none] ∧ Plc H H' D pl k (tagN 0 (ss.take i)))
      ⟨none, none, none, rfl, P⟩ (fun i σ H' hp => ?_) (fun i x σ H3 H4 hi hp hy => ?_) (fun σ H3 hp => ?_)
    · obtain ⟨_, _, _, _, P⟩ := hp
      exact P.s
    · obtain ⟨y1, y3, y5, rfl, P⟩ := hp
      obtain ⟨T, x1, x2, rfl, nT, rfl, f1, f2⟩ := hy
      cases f1
      have f2 : xs[i]? = some x2 := f2
      rw [hX.1] at hi
      have gs : ss[i]? = some ss[i] := List.getElem?_eq_getElem hi
      generalize ss[i] = st at gs
      obtain ⟨sa, f3, hsa⟩ := hX.2 i st gs
      rw [f3] at f2
      cases f2
      have mem : st ∈ ss := List.mem_of_getElem? gs
      refine ⟨T, _, rfl, .inl (.inl upd_same), rfl, _, _, rfl, _, _, rfl, rfl, ?_⟩
      replace P := P.same (same_new (o := .tup [.int (i : Nat), .ref sa]) nT)
      generalize upd H3 T (.tup [.int (i : Nat), .ref sa]) = H4 at P ⊢
      refine ⟨_, rfl, sa, rfl, ⟨_, same_tup P.s hsa⟩, ?_⟩
      refine for_it (walk_tup (xs := st.map V.int)) (fun j σ H' => ∃ (y3 : Option V), σ = [some (.ref a), some (.ref sa), some (.int (k : Nat)), y3, some (.ref D), some (.int (i : Nat)), none] ∧ Plc H H' D pl k (tagN 0 (ss.take i) ++ (st.take j).map fun t => (i, t)))
        ⟨y3, rfl, by rw [List.take_zero, List.map_nil, List.append_nil]; exact P⟩ (fun j σ H' _ hp => ?_) (fun j x σ H6 H7 hj hp hy => ?_) (fun σ H6 hp => ?_)
      · obtain ⟨_, _, P⟩ := hp
        exact same_tup P.s hsa
      · obtain ⟨y3, rfl, P⟩ := hp
        obtain ⟨rfl, hx⟩ := hy
        rw [List.getElem?_map] at hx
        cases ht : st[j]? with
        | none => rw [ht] at hx; cases hx
        | some t =>
          rw [ht] at hx
          cases hx
          obtain ⟨n, rfl, hn⟩ := hG.lt mem (List.mem_of_getElem? ht)
          have hc := pre_count gs ht
          have h2 := hG.two (n : Int)
          have ga : pl[n]? = some (pl[n]'(by rw [P.k]; exact hn)) := List.getElem?_eq_getElem _
          generalize pl[n]'(by rw [P.k]; exact hn) = al at ga
          obtain ⟨g1, g2, g3⟩ := P.at_ n al ga
          refine ⟨_, rfl, _, rfl, D, _, _, _, rfl, rfl, SqL.of P.d, atI_nat (j := n) (v := V.ref al) (by rw [List.getElem?_map, ga]; rfl), .inl ⟨rfl, _, SqL.of g3⟩, _, rfl, al, _, _, rfl, rfl, g3, ?_, ?_⟩
          · rw [List.length_map, pls_len, List.map_append, tagN_ties, List.map_map, show ((fun (x : Nat × Int) => x.2) ∘ fun t => (i, t)) = id from rfl, List.map_id]
            exact small1000 (by omega)
          · refine ⟨_, rfl, ?_⟩
            rw [List.take_add_one, ht, List.map_append, ← List.append_assoc]
            exact P.add ga
      · obtain ⟨y3, rfl, P⟩ := hp
        rw [List.length_map, List.take_length, ← tagN_take gs] at P
        exact ⟨_, _, _, rfl, P⟩
    · obtain ⟨y1, y3, y5, rfl, P⟩ := hp
      rw [hX.1, List.take_length] at P
      -- tuple([(at[0], at[-1]) for at in places])
      refine ⟨_, rfl, D, rfl, ⟨_, SqL.of P.d⟩, fun L nL => ?_⟩
      refine lc_list (K := K) (a := D) (xs := pl.map V.ref) (fun i H' => Same H3 H' ∧ ∃ as : List Addr, as.length = i ∧ H' L = some (.lst (as.map V.ref)) ∧ ∀ (t : Nat) (b : Addr), as[t]? = some b → b ≠ L ∧ H' b = some (.tup [.int (endOf ss t).1, .int (endOf ss t).2]))
        ⟨same_new nL, [], rfl, upd_same, fun _ _ e => by simp at e⟩ (fun i H' _ hp => SqL.of (hp.1 _ _ P.d)) (fun i x H' hx hp => ?_) (fun H' hp => ?_)
      · obtain ⟨sm, as, el, eL, hb⟩ := hp
        rw [List.getElem?_map] at hx
        cases ga : pl[i]? with
        | none => rw [ga] at hx; cases hx
        | some al =>
          rw [ga] at hx
          cases hx
          have hi : i < k := by rw [← P.k]; exact (List.getElem?_eq_some_iff.mp ga).1
          obtain ⟨g1, g2, g3⟩ := P.at_ i al ga
          have hne : pls (tagN 0 ss) (i : Int) ≠ [] := fun z => by
            have h1 := (hG.all i (by omega)).mpr hi
            have h2 := pls_len (tagN 0 ss) (i : Int)
            rw [z, tagN_ties] at h2
            simp only [List.length_nil] at h2
            omega
          have g4 := sm _ _ g3
          refine ⟨rfl, tyes_ite ?_⟩
          refine ⟨_, rfl, al, _, 0, _, rfl, rfl, SqL.of g4, at_first hne, _, rfl, 1, rfl, al, _, -1, _, rfl, rfl, SqL.of g4, at_last hne, by show 2 ≤ sizeLine; decide, fun p np => ?_⟩
          have nLp : L ≠ p := ne_of_none eL np
          refine ⟨_, by rw [upd_ne nLp]; exact eL, ?_, fun b o e => ?_, as ++ [p], by simp [el], by rw [upd_same, List.map_append]; rfl, fun t b e => ?_⟩
          · rw [List.length_map, el]; exact small1000 (by omega)
          · rw [upd_ne (ne_of_none e nL), upd_ne (ne_of_none (sm _ _ e) np)]
            exact sm b o e
          · by_cases h : t < as.length
            · rw [List.getElem?_append_left h] at e
              obtain ⟨b1, b2⟩ := hb t b e
              exact ⟨b1, by rw [upd_ne b1, upd_ne (ne_of_none b2 np)]; exact b2⟩
            · rw [List.getElem?_append_right (by omega)] at e
              have hi' := (List.getElem?_eq_some_iff.mp e).1
              simp only [List.length_singleton] at hi'
              have z : t - as.length = 0 := by omega
              rw [z] at e
              have et : t = i := by omega
              cases e
              subst et
              exact ⟨Ne.symm nLp, by rw [upd_ne (Ne.symm nLp), upd_same]; rfl⟩
      · obtain ⟨sm, as, el, eL, hb⟩ := hp
        rw [List.length_map, P.k] at el
        refine ⟨L, _, rfl, .inl ⟨SqL.of eL, fun l nl => ?_⟩⟩
        refine q _ l (P.s.trans (sm.trans (same_new nl))) ((P.s.trans sm).free nl) ⟨as, el, SqT.of upd_same, fun t b e => SqT.of ?_⟩
        obtain ⟨b1, b2⟩ := hb t b e
        rw [upd_ne (ne_of_none b2 nl)]
        exact b2
end
end Sg

/-! The laws' own drawing: ends of ties. -/
namespace Sg
open PySem PySem.Spec PyProof.Rows L2 RZ
abbrev sEnds : Stmt := topS 24
/-- tuples of two integers stand behind one another -/
def PairsAt (H : Hp) (xs : List V) (es : List (Int × Int)) : Prop := xs.length = es.length ∧ ∀ (i : Nat) (e : Int × Int), es[i]? = some e → ∃ t : Addr, xs[i]? = some (.ref t) ∧ H t = some (.tup [.int e.1, .int e.2])
/-- no tuple changes -/
def Tp (H H' : Hp) : Prop := ∀ b xs, H b = some (.tup xs) → H' b = some (.tup xs)
theorem Tp.same {H H' : Hp} (s : Same H H') : Tp H H' := fun b _ e => s b _ e
theorem Tp.upd {H : Hp} {D : Addr} {xs : List V} {o : HO} (e : H D = some (.lst xs)) : Tp H (upd H D o) := fun b ys z => by
  rw [upd_ne fun q => by rw [q, e] at z; cases z]
  exact z
theorem MSt.tp {H H' : Hp} {m g c : Addr} {k : Int} (M : MSt H m g c k) (b : But m g H H') : Tp H H' := fun q ys z => by
  obtain ⟨_, cs, gs, h1, h2, h3, _⟩ := M
  refine b _ _ z (fun e => ?_) (fun e => ?_)
  · rw [e, h1] at z; cases z
  · rw [e, h3] at z; cases z
theorem PairsAt.tp {H H' : Hp} {xs : List V} {es : List (Int × Int)} (h : PairsAt H xs es) (t : Tp H H') : PairsAt H' xs es := ⟨h.1, fun i e q => let ⟨a, h1, h2⟩ := h.2 i e q; ⟨a, h1, t _ _ h2⟩⟩
theorem PairsAt.nil {H : Hp} : PairsAt H [] [] := ⟨rfl, fun i e q => by simp at q⟩
theorem PairsAt.snoc {H : Hp} {xs : List V} {es : List (Int × Int)} {t : Addr} {a b : Int} (h : PairsAt H xs es) (e : H t = some (.tup [.int a, .int b])) : PairsAt H (xs ++ [.ref t]) (es ++ [(a, b)]) := by
  refine ⟨by rw [List.length_append, List.length_append, h.1]; rfl, fun i p q => ?_⟩
  by_cases hi : i < es.length
  · rw [List.getElem?_append_left hi] at q
    obtain ⟨u, h1, h2⟩ := h.2 i p q
    exact ⟨u, by rw [List.getElem?_append_left (by rw [h.1]; exact hi)]; exact h1, h2⟩
  · rw [List.getElem?_append_right (by omega)] at q
    have hz : i - es.length = 0 := by
      have := (List.getElem?_eq_some_iff.mp q).1
      simpa using this
    rw [hz] at q
    cases q
    exact ⟨t, by rw [List.getElem?_append_right (by rw [h.1]; omega), h.1, hz]; rfl, e⟩
theorem PairsAt.erase {H : Hp} {xs : List V} {es : List (Int × Int)} (j : Nat) (h : PairsAt H xs es) : PairsAt H (xs.eraseIdx j) (es.eraseIdx j) := by
  refine ⟨by rw [List.length_eraseIdx, List.length_eraseIdx, h.1], fun i p q => ?_⟩
  rw [List.getElem?_eraseIdx] at q ⊢
  split at q
  · rename_i hi
    obtain ⟨u, h1, h2⟩ := h.2 i p q
    exact ⟨u, by rw [if_pos hi]; exact h1, h2⟩
  · rename_i hi
    obtain ⟨u, h1, h2⟩ := h.2 (i + 1) p q
    exact ⟨u, by rw [if_neg hi]; exact h1, h2⟩
/-- the list of ends that is being drawn -/
structure Bag (H0 H : Hp) (m g c D : Addr) (k : Int) (xs : List V) (es : List (Int × Int)) : Prop where
  nD : H0 D = none
  oD : Off m g c D
  M : MSt H m g c k
  b : But m g H0 H
  eD : H D = some (.lst xs)
  P : PairsAt H xs es
section
variable {H0 H H' : Hp} {m g c D : Addr} {k k' : Int} {xs : List V} {es : List (Int × Int)}
theorem Bag.drawn (B : Bag H0 H m g c D k xs es) (M' : MSt H' m g c k') (b' : But m g H H') : Bag H0 H' m g c D k' xs es :=
  ⟨B.nD, B.oD, M', B.b.trans b', b' _ _ B.eD B.oD.m B.oD.g, B.P.tp (B.M.tp b')⟩
theorem Bag.same (B : Bag H0 H m g c D k xs es) (s : Same H H') : Bag H0 H' m g c D k xs es :=
  ⟨B.nD, B.oD, B.M.same s, B.b.trans (But.of s), s _ _ B.eD, B.P.tp (.same s)⟩
theorem Bag.put (B : Bag H0 H m g c D k xs es) {ys : List V} {zs : List (Int × Int)} (P : PairsAt H ys zs) : Bag H0 (upd H D (.lst ys)) m g c D k ys zs :=
  ⟨B.nD, B.oD, B.M.upd B.oD, fun b o e h1 h2 => by rw [upd_ne (ne_of_none e B.nD)]; exact B.b b o e h1 h2, upd_same, P.tp (.upd B.eD)⟩
theorem Bag.free (B : Bag H0 H m g c D k xs es) {p : Addr} (n : H p = none) : H0 p = none := by
  cases e : H0 p with
  | none => rfl
  | some o =>
    have := B.b p o e (B.M.off n).m (B.M.off n).g
    rw [n] at this
    cases this
theorem Bag.push (B : Bag H0 H m g c D k xs es) {t : Addr} {a b : Int} (e : H t = some (.tup [.int a, .int b])) : Bag H0 (upd H D (.lst (xs ++ [.ref t]))) m g c D k (xs ++ [.ref t]) (es ++ [(a, b)]) := B.put (B.P.snoc e)
/-- another list takes its place -/
theorem Bag.move (B : Bag H0 H m g c D k xs es) {p : Addr} (n : H p = none) {ys : List V} {zs : List (Int × Int)} (P : PairsAt H ys zs) : Bag H0 (upd H p (.lst ys)) m g c p k ys zs :=
  have s : Same H (upd H p (.lst ys)) := same_new n
  ⟨B.free n, B.M.off n, B.M.same s, B.b.trans (But.of s), upd_same, P.tp (.same s)⟩
end
def prD (e : Int × Int) : PyData := .tuple [.int e.1, .int e.2]
theorem dp_pairs {K : PySem.W.Frag} {H : Hp} : ∀ (es : List (Int × Int)) (xs : List V), PairsAt H xs es → DpAll K H xs (es.map prD)
  | [], [], _ => .nil
  | [], x :: xs, h => by have := h.1; simp at this
  | e :: es, [], h => by have := h.1; simp at this
  | e :: es, x :: xs, h => by
    obtain ⟨t, h1, h2⟩ := h.2 0 e rfl
    cases h1
    exact .cons (.tup (SqT.of h2) (.cons (.int _) (.cons (.int _) .nil))) (dp_pairs es xs ⟨by have := h.1; simpa using this, fun i p q => h.2 (i + 1) p q⟩)
theorem eqv_pairs (es : List (Int × Int)) : PyData.eqv (.list (es.map prD)) (.list []) = es.isEmpty := by cases es <;> rfl
theorem canLay_pairs : ∀ es : List (Int × Int), PyData.canLayAll0 (es.map prD) = true
  | [] => rfl
  | _ :: r => by
    show (true && PyData.canLayAll0 (r.map prD)) = true
    rw [canLay_pairs r]; rfl
theorem depth_pairs : ∀ es : List (Int × Int), PyData.depthAll (es.map prD) ≤ 1
  | [] => Nat.zero_le _
  | _ :: r => by
    show max 1 (PyData.depthAll (r.map prD)) ≤ 1
    have := depth_pairs r
    omega
theorem shaped_pairs (es : List (Int × Int)) : SeqAt.shaped (.list (es.map prD)) = true := by
  show (PyData.canLayAll0 (es.map prD) && decide (PyData.depthAll (es.map prD) + 1 ≤ 64)) = true
  rw [canLay_pairs, Bool.true_and]
  have := depth_pairs es
  exact decide_eq_true (by omega)
def in24 (e : Int × Int) : Prop := 0 ≤ e.1 ∧ e.1 < 24 ∧ 0 ≤ e.2 ∧ e.2 < 24
theorem in24_snoc {es : List (Int × Int)} {a b : Int} (h : ∀ e ∈ es, in24 e) (h1 : 0 ≤ a) (h2 : a < 24) (h3 : 0 ≤ b) (h4 : b < 24) : ∀ e ∈ es ++ [(a, b)], in24 e := fun e he => by
  rcases List.mem_append.mp he with z | z
  · exact h e z
  · rw [List.mem_singleton.mp z]; exact ⟨h1, h2, h3, h4⟩
section
variable {P : Program} {w : World} {K : PySem.W.Frag} {mg : Str → Option Value} {base : Heap}
/-- behind i ties -/
def EInv (H0 : Hp) (m g c : Addr) (k most many way places : Int) (i : Nat) (σ : L2.St) (H' : Hp) : Prop := ∃ (D : Addr) (xs : List V) (es : List (Int × Int)) (y6 y7 y8 : Option V) (k' : Int),
  σ = [some (.ref m), some (.int most), some (.int many), some (.int way), some (.int places), some (.ref D), y6, y7, y8, none] ∧ Bag H0 H' m g c D k' xs es ∧ k ≤ k' ∧ k' ≤ k + 3 + 3 * i ∧ es.length = i ∧ ∀ e ∈ es, in24 e
def spEnds : Sp := fun vs H Q _ => ∃ (m g c : Addr) (k most : Int), vs = [.ref m, .int most] ∧ MSt H m g c k ∧ k < 800000 ∧ 0 ≤ most ∧ most ≤ 12 ∧
  ∀ (H' : Hp) (p : Addr) (xs : List V) (es : List (Int × Int)) (k' : Int), k ≤ k' → k' ≤ k + 100 → Bag H H' m g c p k' xs es → (es.length : Int) ≤ most → (∀ e ∈ es, in24 e) → Q (.ref p) H'
theorem scEnds : FnScope ["m", "most", "many", "way", "places", "found", "tie", "old", "fresh", "number"] ["m", "most"] (defScope sEnds) := ⟨rfl, rfl, rfl, by decide +kernel, rfl, by decide +kernel, by decide +kernel⟩
theorem ok_ends {f fD fO : Addr} {fd fdD fdO : FuncData} (F : Fun K "_law_ends" "_law_ends" sEnds f fd) (GD : FnOk P w K mg base CX0 2 fD fdD ["m", "limit"] spDraw) (gD : mg "_law_draw" = some (.ref fD)) (kD : PySem.W.keepIn K (.ref fD) = true) (bD : Binds K fdD ["m", "limit"] [])
    (GO : FnOk P w K mg base CX0 3 fO fdO ["m", "many"] spOrder) (gO : mg "_law_order" = some (.ref fO)) (kO : PySem.W.keepIn K (.ref fO) = true) (bO : Binds K fdO ["m", "many"] [])
    (mi : mg "int" = none) (mra : mg "range" = none) (mle : mg "len" = none) : FnOk P w K mg base CX0 4 f fd ["m", "most"] spEnds := by
  refine F.ok scEnds (fun vs H Q E h => ?_) (fun cdv A outer s H vs Q E hr h => ?_)
  · obtain ⟨m, g, c, k, most, rfl, _⟩ := h
    rfl
  · obtain ⟨m, g, c, k, most, rfl, M, hk, m0, m1, q⟩ := h
    have hr2 : Room 2 _ := hr.mono (by decide)
    refine ⟨_, pss_cons (ps_par (i := 2) (j := 3) (by rfl) scEnds.nd rfl rfl (by decide) rfl rfl (pa_cons (pe_call GD hr2 (by rfl) gD kD bD .nil pass0 (pa_cons (pv 0) (pa_cons (pe_op op_add (pv 1) pe_int) pa_nil))) (pa_cons (pe_call GD hr2 (by rfl) gD kD bD .nil pass0 (pa_cons (pv 0) (pa_cons pe_int pa_nil))) pa_nil)) (by rfl))
      (pss_cons (ps_asg (pe_tup (pa_cons (pe_ix ix_list (pe_lst (pa_cons pe_int (pa_cons pe_int (pa_cons pe_int (pa_cons pe_int pa_nil))))) (pe_call GD hr2 (by rfl) gD kD bD .nil pass0 (pa_cons (pv 0) (pa_cons pe_int pa_nil))) (fun _ _ => rfl)) (pa_cons (pe_lst pa_nil) pa_nil))) (pg_tup rfl (pgs_cons (pg_name (i := 4) scEnds.nd rfl (.inl rfl)) (pgs_cons (pg_name (i := 5) scEnds.nd rfl (.inr rfl)) pgs_nil))))
      (pss_cons (ps_for PassesOwn.never rfl (pi_range1 (by rfl) mra (pa_cons (pv 2) pa_nil)) (pg_name (i := 6) scEnds.nd rfl (.inl rfl)) (pss_one (ps_if (pt_cmpR op_eq (pv 3) pe_int (nomark _)) (pss_one (ps_expr (pe_bm PySem.F.plainAttrs_list PySem.F.slot_list_append PySem.F.type_list_append mt_append (pv 5) (pa_cons (pe_tup (pa_cons (pe_call GD hr2 (by rfl) gD kD bD .nil pass0 (pa_cons (pv 0) (pa_cons (pv 4) pa_nil))) (pa_cons (pe_call GD hr2 (by rfl) gD kD bD .nil pass0 (pa_cons (pv 0) (pa_cons (pv 4) pa_nil))) pa_nil))) pa_nil)))) (pss_one (ps_if (pt_cmpR op_eq (pv 3) pe_int (nomark _)) (pss_one (ps_expr (pe_bm PySem.F.plainAttrs_list PySem.F.slot_list_append PySem.F.type_list_append mt_append (pv 5) (pa_cons (pe_tup (pa_cons (pv 6) (pa_cons (pe_op op_mod (pe_callTy call_int1 (by rfl) mi (by decide +kernel) (pa_cons (pe_op op_add (pv 6) pe_int) pa_nil)) (pv 2)) pa_nil))) pa_nil)))) (pss_one (ps_if (pt_cmpR op_eq (pv 3) pe_int (nomark _)) (pss_one (ps_expr (pe_bm PySem.F.plainAttrs_list PySem.F.slot_list_append PySem.F.type_list_append mt_append (pv 5) (pa_cons (pe_tup (pa_cons (pe_call GD hr2 (by rfl) gD kD bD .nil pass0 (pa_cons (pv 0) (pa_cons pe_int pa_nil))) (pa_cons (pe_op op_add pe_int (pe_call GD hr2 (by rfl) gD kD bD .nil pass0 (pa_cons (pv 0) (pa_cons pe_int pa_nil)))) pa_nil))) pa_nil)))) (pss_one (ps_if (PW.pt (pw_and (pt_cmpR op_eq (pv 3) pe_int (nomark _)) (pw_and1 (pt_cmpR (op_neD hr.units) (pv 5) (pe_lst pa_nil) (nomark _))))) (pss_cons (ps_set (i := 7) scEnds.nd rfl (.inl rfl) (pe_bm PySem.F.plainAttrs_list PySem.F.slot_list_pop PySem.F.type_list_pop mt_popAt (pv 5) (pa_cons (pe_call GD hr2 (by rfl) gD kD bD .nil pass0 (pa_cons (pv 0) (pa_cons (pe_callB call_len_seq (by rfl) mle PySem.boot_len (pa_cons (pv 5) pa_nil)) pa_nil))) pa_nil))) (pss_cons (ps_set (i := 8) scEnds.nd rfl (.inl rfl) (pe_ix ix_list (pe_lst (pa_cons (pe_lst (pa_cons (pe_tup (pa_cons (pe_ix ix_tup (pv 7) pe_int (fun _ _ => rfl)) (pa_cons (pe_op op_sub pe_int (pv 6)) pa_nil))) (pa_cons (pe_tup (pa_cons (pe_op op_sub pe_int (pv 6)) (pa_cons (pe_ix ix_tup (pv 7) pe_int (fun _ _ => rfl)) pa_nil))) pa_nil))) (pa_cons (pe_lst (pa_cons (pv 7) (pa_cons (pv 7) pa_nil))) pa_nil))) (pe_call GD hr2 (by rfl) gD kD bD .nil pass0 (pa_cons (pv 0) (pa_cons pe_int pa_nil))) (fun _ _ => rfl))) (pss_one (ps_set (i := 5) scEnds.nd rfl (.inr rfl) (pe_op op_cat (pv 5) (pv 8)))))) (pss_one (ps_if (pt_cmpR op_eq (pv 3) pe_int (nomark _)) (pss_one (ps_expr (pe_bm PySem.F.plainAttrs_list PySem.F.slot_list_append PySem.F.type_list_append mt_append (pv 5) (pa_cons (pe_ix ix_list (pe_lst (pa_cons (pe_tup (pa_cons pe_int (pa_cons pe_int pa_nil))) (pa_cons (pe_tup (pa_cons pe_int (pa_cons pe_int pa_nil))) (pa_cons (pe_tup (pa_cons pe_int (pa_cons pe_int pa_nil))) (pa_cons (pe_tup (pa_cons pe_int (pa_cons pe_int pa_nil))) (pa_cons (pe_tup (pa_cons pe_int (pa_cons pe_int pa_nil))) (pa_cons (pe_tup (pa_cons pe_int (pa_cons pe_int pa_nil))) pa_nil))))))) (pe_call GD hr2 (by rfl) gD kD bD .nil pass0 (pa_cons (pv 0) (pa_cons pe_int pa_nil))) (fun _ _ => rfl)) pa_nil)))) (pss_one (ps_expr (pe_bm PySem.F.plainAttrs_list PySem.F.slot_list_append PySem.F.type_list_append mt_append (pv 5) (pa_cons (pe_ifExp (pt_cmpR op_lt (pv 6) pe_int (nomark _)) (pe_tup (pa_cons pe_int (pa_cons pe_int pa_nil))) (pe_tup (pa_cons (pe_call GD hr2 (by rfl) gD kD bD .nil pass0 (pa_cons (pv 0) (pa_cons pe_int pa_nil))) (pa_cons (pe_op op_add pe_int (pe_call GD hr2 (by rfl) gD kD bD .nil pass0 (pa_cons (pv 0) (pa_cons pe_int pa_nil)))) pa_nil)))) pa_nil)))))))))))))))
      (pss_one (ps_ret (pe_lc (own := [("number", 9)]) (g := gName 9) (tt := tYes) (by rfl) scEnds.nd (pi_list (pe_call GO hr (by rfl) gO kO bO .nil pass0 (pa_cons (pv 0) (pa_cons (pe_callB call_len_seq (by rfl) mle PySem.boot_len (pa_cons (pv 5) pa_nil)) pa_nil)))) (blkOk_by (own := [("number", 9)]) (N := ["m", "most", "many", "way", "places", "found", "tie", "old", "fresh", "number"]) (sc := defScope sEnds) (by decide +kernel))
          (fun _ _ _ _ _ => pg_name (i := 9) scEnds.nd rfl (Or.inl rfl)) (fun _ _ _ _ _ => pts_nil) (fun _ _ _ _ _ => pe_ix (ix_listK (K := K) rfl) (pv 5) (pv 9) (fun _ _ => rfl))))))), ?_⟩
    refine ⟨_, rfl, _, rfl, _, _, rfl, rfl, ?_⟩
    refine ⟨m, g, c, k, _, rfl, M, by omega, by omega, by omega, fun many H1 a0 a1 M1 b1 => ?_⟩
    refine ⟨_, rfl, m, g, c, _, _, rfl, M1, by omega, by decide, by decide, fun way H2 w0 w1 M2 b2 => ?_⟩
    refine ⟨_, _, rfl, ?_⟩
    -- places, found
    refine ⟨by show 4 ≤ sizeLine; decide, fun p np => ?_⟩
    have s3 := same_new (o := .lst [V.int 3, .int 5, .int 8, .int 24]) np
    have ep : (upd H2 p (.lst [V.int 3, .int 5, .int 8, .int 24])) p = some (.lst [V.int 3, .int 5, .int 8, .int 24]) := upd_same
    have op := M2.off np
    have M3 := M2.same s3
    have b3 := (b1.trans b2).trans (But.of s3)
    generalize upd H2 p (.lst [V.int 3, .int 5, .int 8, .int 24]) = H3 at ep M3 b3 ⊢
    refine ⟨_, rfl, m, g, c, _, _, rfl, M3, by omega, by decide, by decide, fun r H4 r0 r1 M4 b4 => ?_⟩
    replace ep := b4 _ _ ep op.m op.g
    replace b3 := b3.trans b4
    have pick : ∃ places : Int, atI [V.int 3, .int 5, .int 8, .int 24] r = some (.int places) ∧ 1 ≤ places ∧ places ≤ 24 := by
      obtain ⟨n, rfl⟩ := Int.eq_ofNat_of_zero_le r0
      have hn : n < 4 := by omega
      match n, hn with
      | 0, _ => exact ⟨3, rfl, by decide, by decide⟩
      | 1, _ => exact ⟨5, rfl, by decide, by decide⟩
      | 2, _ => exact ⟨8, rfl, by decide, by decide⟩
      | 3, _ => exact ⟨24, rfl, by decide, by decide⟩
    obtain ⟨places, hp, p0, p1⟩ := pick
    refine ⟨p, _, r, _, rfl, rfl, SqL.of ep, hp, ?_⟩
    refine ⟨by show 0 ≤ sizeLine; decide, fun D nD => ?_⟩
    refine ⟨by show 2 ≤ sizeLine; decide, fun tt ntt => ?_⟩
    refine ⟨tt, _, rfl, SqT.of upd_same, rfl, _, _, rfl, _, _, rfl, rfl, ?_⟩
    have nD0 : H D = none := by
      cases e : H D with
      | none => rfl
      | some o =>
        have := b3 D o e (M4.off nD).m (M4.off nD).g
        rw [nD] at this
        cases this
    have B0 : Bag H (upd H4 D (.lst [])) m g c D (k + 1 + 1 + 1) [] [] := ⟨nD0, M4.off nD, M4.same (same_new nD), b3.trans (But.of (same_new nD)), upd_same, .nil⟩
    replace B0 := B0.same (same_new (o := .tup [.int places, .ref D]) ntt)
    generalize upd (upd H4 D (.lst [])) tt (.tup [.int places, .ref D]) = H5 at B0 ⊢
    obtain ⟨n, rfl⟩ := Int.eq_ofNat_of_zero_le a0
    refine ⟨_, rfl, _, rfl, by omega, by omega, ?_⟩
    refine for_range (lo := 0) (n := n) (EInv H m g c k most n way places) ⟨D, [], [], none, none, none, _, rfl, B0, by omega, by omega, rfl, fun e he => by simp at he⟩ (fun i σ H6 hi hp => ?_) (fun σ H6 hp => ?_)
    · obtain ⟨D, xs, es, y6, y7, y8, k', rfl, B, h1, h2, h3, h4⟩ := hp
      have hx := B.P.1
      have hsz : xs.length < sizeLine := small1000 (by omega)
      have fin : ∀ {H7 : Hp} {D' : Addr} {xs' : List V} {es' : List (Int × Int)} {k2 a b : Int} {t : Addr} {z6 z7 z8 : Option V}, Bag H H7 m g c D' k2 xs' es' → H7 t = some (.tup [.int a, .int b]) → es'.length = i → (∀ e ∈ es', in24 e) → k ≤ k2 → k2 ≤ k + 3 + 3 * i + 3 → 0 ≤ a → a < 24 → 0 ≤ b → b < 24 →
          EInv H m g c k most n way places (i + 1) [some (.ref m), some (.int most), some (.int n), some (.int way), some (.int places), some (.ref D'), z6, z7, z8, none] (upd H7 D' (.lst (xs' ++ [.ref t]))) :=
        fun B e g1 g2 g3 g4 a0 a1 b0 b1 => ⟨_, _, _, _, _, _, _, rfl, B.push e, g3, by omega, by rw [List.length_append, g1]; rfl, in24_snoc g2 a0 a1 b0 b1⟩
      refine ⟨_, rfl, rfl, _, rfl, ite2 (fun _ => ?_) (fun _ => ?_)⟩
      · -- way 0
        refine ⟨_, rfl, .inl ⟨rfl, _, SqL.of B.eD⟩, ?_⟩
        refine ⟨_, rfl, _, rfl, m, g, c, _, _, rfl, B.M, by omega, by omega, by omega, fun r H7 r0 r1 M7 b7 => ?_⟩
        have B := B.drawn M7 b7
        refine ⟨_, rfl, _, rfl, m, g, c, _, _, rfl, B.M, by omega, by omega, by omega, fun u H8 u0 u1 M8 b8 => ?_⟩
        have B := B.drawn M8 b8
        refine ⟨by show 2 ≤ sizeLine; decide, fun t nt => ?_⟩
        have B := B.same (same_new (o := .tup [.int r, .int u]) nt)
        exact ⟨D, _, _, rfl, rfl, B.eD, hsz, fin B upd_same h3 h4 (by omega) (by omega) r0 (by omega) u0 (by omega)⟩
      refine ⟨_, rfl, rfl, _, rfl, ite2 (fun _ => ?_) (fun _ => ?_)⟩
      · -- way 1
        refine ⟨_, rfl, .inl ⟨rfl, _, SqL.of B.eD⟩, ?_⟩
        refine ⟨_, rfl, _, rfl, _, _, rfl, rfl, .inl ⟨_, rfl, _, rfl, _, _, rfl, rfl, by omega, ?_⟩⟩
        refine ⟨by show 2 ≤ sizeLine; decide, fun t nt => ?_⟩
        have B := B.same (same_new (o := .tup [.int (0 + (i : Int)), .int ((0 + (i : Int) + 1) % (n : Int))]) nt)
        have q0 := Int.emod_nonneg (0 + (i : Int) + 1) (show (n : Int) ≠ 0 by omega)
        have q1 := Int.emod_lt_of_pos (0 + (i : Int) + 1) (show (0 : Int) < (n : Int) by omega)
        exact ⟨D, _, _, rfl, rfl, B.eD, hsz, fin B upd_same h3 h4 (by omega) (by omega) (by omega) (by omega) q0 (by omega)⟩
      refine ⟨_, rfl, rfl, _, rfl, ite2 (fun _ => ?_) (fun _ => ?_)⟩
      · -- way 2
        refine ⟨_, rfl, .inl ⟨rfl, _, SqL.of B.eD⟩, ?_⟩
        refine ⟨_, rfl, m, g, c, _, _, rfl, B.M, by omega, by omega, by omega, fun r H7 r0 r1 M7 b7 => ?_⟩
        have B := B.drawn M7 b7
        refine ⟨_, rfl, m, g, c, _, _, rfl, B.M, by omega, by omega, by omega, fun u H8 u0 u1 M8 b8 => ?_⟩
        have B := B.drawn M8 b8
        refine ⟨_, _, rfl, rfl, ?_⟩
        refine ⟨by show 2 ≤ sizeLine; decide, fun t nt => ?_⟩
        have B := B.same (same_new (o := .tup [.int r, .int (4 + u)]) nt)
        exact ⟨D, _, _, rfl, rfl, B.eD, hsz, fin B upd_same h3 h4 (by omega) (by omega) r0 (by omega) (by omega) (by omega)⟩
      refine ⟨_, rfl, rfl, _, rfl, ite2 (fun _ => ?_) (fun _ => ?_)⟩
      · -- way 3
        refine ⟨_, rfl, by show 0 ≤ sizeLine; decide, fun p np => ?_⟩
        have B := B.same (same_new (o := .lst []) np)
        have ep : (upd H6 p (.lst [])) p = some (.lst []) := upd_same
        generalize upd H6 p (.lst []) = H7 at B ep ⊢
        refine ⟨.list (es.map prD), .list [], .lst (SqL.of B.eD) (dp_pairs es xs B.P), .lst (SqL.of ep) .nil, shaped_pairs es, rfl, !es.isEmpty, by rw [eqv_pairs], ?_⟩
        cases hes : es.isEmpty with
        | true =>
          refine ite_ff ?_
          refine ⟨_, rfl, rfl, _, rfl, ite2 (fun _ => ?_) (fun _ => ?_)⟩
          · -- way 4
            generalize H7 = HH0 at B ⊢
            refine ⟨_, rfl, .inl ⟨rfl, _, SqL.of B.eD⟩, ?_⟩
            refine ⟨by show 2 ≤ sizeLine; decide, fun t0 nt0 => ?_⟩
            have B := B.same (same_new (o := .tup [.int 0, .int 1]) nt0)
            have e0 : (upd HH0 t0 (.tup [.int 0, .int 1])) t0 = some (.tup [.int 0, .int 1]) := upd_same
            generalize upd HH0 t0 (.tup [.int 0, .int 1]) = HH1 at B e0 ⊢
            refine ⟨by show 2 ≤ sizeLine; decide, fun t1 nt1 => ?_⟩
            have B := B.same (same_new (o := .tup [.int 0, .int 2]) nt1)
            have e1 : (upd HH1 t1 (.tup [.int 0, .int 2])) t1 = some (.tup [.int 0, .int 2]) := upd_same
            replace e0 := same_new (o := .tup [.int 0, .int 2]) nt1 _ _ e0
            generalize upd HH1 t1 (.tup [.int 0, .int 2]) = HH2 at B e0 e1 ⊢
            refine ⟨by show 2 ≤ sizeLine; decide, fun t2 nt2 => ?_⟩
            have B := B.same (same_new (o := .tup [.int 0, .int 3]) nt2)
            have e2 : (upd HH2 t2 (.tup [.int 0, .int 3])) t2 = some (.tup [.int 0, .int 3]) := upd_same
            replace e0 := same_new (o := .tup [.int 0, .int 3]) nt2 _ _ e0
            replace e1 := same_new (o := .tup [.int 0, .int 3]) nt2 _ _ e1
            generalize upd HH2 t2 (.tup [.int 0, .int 3]) = HH3 at B e0 e1 e2 ⊢
            refine ⟨by show 2 ≤ sizeLine; decide, fun t3 nt3 => ?_⟩
            have B := B.same (same_new (o := .tup [.int 1, .int 2]) nt3)
            have e3 : (upd HH3 t3 (.tup [.int 1, .int 2])) t3 = some (.tup [.int 1, .int 2]) := upd_same
            replace e0 := same_new (o := .tup [.int 1, .int 2]) nt3 _ _ e0
            replace e1 := same_new (o := .tup [.int 1, .int 2]) nt3 _ _ e1
            replace e2 := same_new (o := .tup [.int 1, .int 2]) nt3 _ _ e2
            generalize upd HH3 t3 (.tup [.int 1, .int 2]) = HH4 at B e0 e1 e2 e3 ⊢
            refine ⟨by show 2 ≤ sizeLine; decide, fun t4 nt4 => ?_⟩
            have B := B.same (same_new (o := .tup [.int 1, .int 3]) nt4)
            have e4 : (upd HH4 t4 (.tup [.int 1, .int 3])) t4 = some (.tup [.int 1, .int 3]) := upd_same
            replace e0 := same_new (o := .tup [.int 1, .int 3]) nt4 _ _ e0
            replace e1 := same_new (o := .tup [.int 1, .int 3]) nt4 _ _ e1
            replace e2 := same_new (o := .tup [.int 1, .int 3]) nt4 _ _ e2
            replace e3 := same_new (o := .tup [.int 1, .int 3]) nt4 _ _ e3
            generalize upd HH4 t4 (.tup [.int 1, .int 3]) = HH5 at B e0 e1 e2 e3 e4 ⊢
            refine ⟨by show 2 ≤ sizeLine; decide, fun t5 nt5 => ?_⟩
            have B := B.same (same_new (o := .tup [.int 2, .int 3]) nt5)
            have e5 : (upd HH5 t5 (.tup [.int 2, .int 3])) t5 = some (.tup [.int 2, .int 3]) := upd_same
            replace e0 := same_new (o := .tup [.int 2, .int 3]) nt5 _ _ e0
            replace e1 := same_new (o := .tup [.int 2, .int 3]) nt5 _ _ e1
            replace e2 := same_new (o := .tup [.int 2, .int 3]) nt5 _ _ e2
            replace e3 := same_new (o := .tup [.int 2, .int 3]) nt5 _ _ e3
            replace e4 := same_new (o := .tup [.int 2, .int 3]) nt5 _ _ e4
            generalize upd HH5 t5 (.tup [.int 2, .int 3]) = HH6 at B e0 e1 e2 e3 e4 e5 ⊢
            refine ⟨by show 6 ≤ sizeLine; decide, fun l nl => ?_⟩
            have sl := same_new (o := .lst [.ref t0, .ref t1, .ref t2, .ref t3, .ref t4, .ref t5]) nl
            have el : (upd HH6 l (.lst [.ref t0, .ref t1, .ref t2, .ref t3, .ref t4, .ref t5])) l = some (.lst [.ref t0, .ref t1, .ref t2, .ref t3, .ref t4, .ref t5]) := upd_same
            have ol := B.M.off nl
            have B := B.same sl
            replace e0 := sl _ _ e0
            replace e1 := sl _ _ e1
            replace e2 := sl _ _ e2
            replace e3 := sl _ _ e3
            replace e4 := sl _ _ e4
            replace e5 := sl _ _ e5
            generalize upd HH6 l (.lst [.ref t0, .ref t1, .ref t2, .ref t3, .ref t4, .ref t5]) = HH7 at B el e0 e1 e2 e3 e4 e5 ⊢
            refine ⟨_, rfl, m, g, c, _, _, rfl, B.M, by omega, by omega, by omega, fun r H8 r0 r1 M8 b8 => ?_⟩
            have tp := B.M.tp b8
            have B := B.drawn M8 b8
            replace el := b8 _ _ el ol.m ol.g
            replace e0 := tp _ _ e0
            replace e1 := tp _ _ e1
            replace e2 := tp _ _ e2
            replace e3 := tp _ _ e3
            replace e4 := tp _ _ e4
            replace e5 := tp _ _ e5
            have pick : ∃ (t : Addr) (a b : Int), atI [V.ref t0, .ref t1, .ref t2, .ref t3, .ref t4, .ref t5] r = some (.ref t) ∧ H8 t = some (.tup [.int a, .int b]) ∧ 0 ≤ a ∧ a < 24 ∧ 0 ≤ b ∧ b < 24 := by
              obtain ⟨z, rfl⟩ := Int.eq_ofNat_of_zero_le r0
              have hz : z < 6 := by omega
              match z, hz with
              | 0, _ => exact ⟨_, _, _, rfl, e0, by decide, by decide, by decide, by decide⟩
              | 1, _ => exact ⟨_, _, _, rfl, e1, by decide, by decide, by decide, by decide⟩
              | 2, _ => exact ⟨_, _, _, rfl, e2, by decide, by decide, by decide, by decide⟩
              | 3, _ => exact ⟨_, _, _, rfl, e3, by decide, by decide, by decide, by decide⟩
              | 4, _ => exact ⟨_, _, _, rfl, e4, by decide, by decide, by decide, by decide⟩
              | 5, _ => exact ⟨_, _, _, rfl, e5, by decide, by decide, by decide, by decide⟩
            obtain ⟨t, a, b, ht, et, z0, z1, z2, z3⟩ := pick
            refine ⟨l, _, r, _, rfl, rfl, SqL.of el, ht, ?_⟩
            exact ⟨D, _, _, rfl, rfl, B.eD, hsz, fin B et h3 h4 (by omega) (by omega) z0 z1 z2 z3⟩
          · -- the last way
            refine ⟨_, rfl, .inl ⟨rfl, _, SqL.of B.eD⟩, ?_⟩
            refine ⟨_, rfl, _, _, rfl, rfl, _, rfl, ite2 (fun _ => ?_) (fun _ => ?_)⟩
            · refine ⟨by show 2 ≤ sizeLine; decide, fun t nt => ?_⟩
              have B := B.same (same_new (o := .tup [.int 0, .int 1]) nt)
              exact ⟨D, _, _, rfl, rfl, B.eD, hsz, fin B upd_same h3 h4 (by omega) (by omega) (by decide) (by decide) (by decide) (by decide)⟩
            · refine ⟨_, rfl, m, g, c, _, _, rfl, B.M, by omega, by omega, by omega, fun r H7 r0 r1 M7 b7 => ?_⟩
              have B := B.drawn M7 b7
              refine ⟨_, rfl, m, g, c, _, _, rfl, B.M, by omega, by omega, by omega, fun u H8 u0 u1 M8 b8 => ?_⟩
              have B := B.drawn M8 b8
              refine ⟨_, _, rfl, rfl, ?_⟩
              refine ⟨by show 2 ≤ sizeLine; decide, fun t nt => ?_⟩
              have B := B.same (same_new (o := .tup [.int r, .int (1 + u)]) nt)
              exact ⟨D, _, _, rfl, rfl, B.eD, hsz, fin B upd_same h3 h4 (by omega) (by omega) r0 (by omega) (by omega) (by omega)⟩
        | false =>
          have hne : es ≠ [] := fun z => by rw [z] at hes; cases hes
          have hl1 : 1 ≤ es.length := by
            cases es with
            | nil => exact absurd rfl hne
            | cons _ _ => simp
          refine ite_tt ?_
          -- old = found.pop(..)
          refine ⟨_, rfl, .inl ⟨rfl, _, SqL.of B.eD⟩, ?_⟩
          refine ⟨_, rfl, _, rfl, D, _, rfl, .inl (SqL.of B.eD), ?_⟩
          refine ⟨m, g, c, _, _, rfl, B.M, by omega, by omega, by omega, fun r H8 r0 r1 M8 b8 => ?_⟩
          have B := B.drawn M8 b8
          obtain ⟨j, rfl⟩ := Int.eq_ofNat_of_zero_le r0
          have hj : j < es.length := by omega
          have ge : es[j]? = some es[j] := List.getElem?_eq_getElem hj
          obtain ⟨t, gt, et⟩ := B.P.2 j _ ge
          have ha := h4 _ (List.mem_of_getElem? ge)
          generalize es[j] = e at ge et ha
          obtain ⟨ea, eb⟩ := e
          refine ⟨D, xs, _, j, .ref t, rfl, rfl, B.eD, by omega, by omega, by rw [seqIndex_of (by omega) (by omega)]; rfl, gt, ?_⟩
          have et := Tp.upd (o := .lst (xs.eraseIdx j)) B.eD _ _ et
          have B := B.put (B.P.erase j)
          generalize upd H8 D (.lst (xs.eraseIdx j)) = H9 at B et ⊢
          have el' : (es.eraseIdx j).length = i - 1 := by rw [List.length_eraseIdx, if_pos hj]; omega
          -- fresh
          refine ⟨_, rfl, t, _, 0, _, rfl, rfl, SqT.of et, atI_nat (j := 0) rfl, ?_⟩
          refine ⟨_, rfl, _, _, rfl, rfl, ?_⟩
          refine ⟨by show 2 ≤ sizeLine; decide, fun t1 nt1 => ?_⟩
          have s1 := same_new (o := .tup [.int ea, .int (23 - (0 + (i : Int)))]) nt1
          have e1 : (upd H9 t1 (.tup [.int ea, .int (23 - (0 + (i : Int)))])) t1 = some (.tup [.int ea, .int (23 - (0 + (i : Int)))]) := upd_same
          have B := B.same s1
          replace et := s1 _ _ et
          generalize upd H9 t1 (.tup [.int ea, .int (23 - (0 + (i : Int)))]) = G1 at B et e1 ⊢
          refine ⟨_, rfl, _, _, rfl, rfl, ?_⟩
          refine ⟨_, rfl, t, _, 1, _, rfl, rfl, SqT.of et, atI_nat (j := 1) rfl, ?_⟩
          refine ⟨by show 2 ≤ sizeLine; decide, fun t2 nt2 => ?_⟩
          have s2 := same_new (o := .tup [.int (23 - (0 + (i : Int))), .int eb]) nt2
          have e2 : (upd G1 t2 (.tup [.int (23 - (0 + (i : Int))), .int eb])) t2 = some (.tup [.int (23 - (0 + (i : Int))), .int eb]) := upd_same
          have B := B.same s2
          replace et := s2 _ _ et
          replace e1 := s2 _ _ e1
          generalize upd G1 t2 (.tup [.int (23 - (0 + (i : Int))), .int eb]) = G2 at B et e1 e2 ⊢
          refine ⟨by show 2 ≤ sizeLine; decide, fun l1 nl1 => ?_⟩
          have s3 := same_new (o := .lst [.ref t1, .ref t2]) nl1
          have f1 : (upd G2 l1 (.lst [.ref t1, .ref t2])) l1 = some (.lst [.ref t1, .ref t2]) := upd_same
          have o1 := B.M.off nl1
          have B := B.same s3
          replace et := s3 _ _ et
          replace e1 := s3 _ _ e1
          replace e2 := s3 _ _ e2
          generalize upd G2 l1 (.lst [.ref t1, .ref t2]) = G3 at B et e1 e2 f1 ⊢
          refine ⟨_, rfl, _, rfl, by show 2 ≤ sizeLine; decide, fun l2 nl2 => ?_⟩
          have s4 := same_new (o := .lst [.ref t, .ref t]) nl2
          have f2 : (upd G3 l2 (.lst [.ref t, .ref t])) l2 = some (.lst [.ref t, .ref t]) := upd_same
          have o2 := B.M.off nl2
          have B := B.same s4
          replace et := s4 _ _ et
          replace e1 := s4 _ _ e1
          replace e2 := s4 _ _ e2
          replace f1 := s4 _ _ f1
          generalize upd G3 l2 (.lst [.ref t, .ref t]) = G4 at B et e1 e2 f1 f2 ⊢
          refine ⟨by show 2 ≤ sizeLine; decide, fun l3 nl3 => ?_⟩
          have s5 := same_new (o := .lst [.ref l1, .ref l2]) nl3
          have f3 : (upd G4 l3 (.lst [.ref l1, .ref l2])) l3 = some (.lst [.ref l1, .ref l2]) := upd_same
          have o3 := B.M.off nl3
          have B := B.same s5
          replace et := s5 _ _ et
          replace e1 := s5 _ _ e1
          replace e2 := s5 _ _ e2
          replace f1 := s5 _ _ f1
          replace f2 := s5 _ _ f2
          generalize upd G4 l3 (.lst [.ref l1, .ref l2]) = G5 at B et e1 e2 f1 f2 f3 ⊢
          refine ⟨_, rfl, m, g, c, _, _, rfl, B.M, by omega, by decide, by decide, fun u G6 u0 u1 M9 b9 => ?_⟩
          have tp := B.M.tp b9
          have B := B.drawn M9 b9
          replace et := tp _ _ et
          replace e1 := tp _ _ e1
          replace e2 := tp _ _ e2
          replace f1 := b9 _ _ f1 o1.m o1.g
          replace f2 := b9 _ _ f2 o2.m o2.g
          replace f3 := b9 _ _ f3 o3.m o3.g
          obtain ⟨a0, a1, a2, a3⟩ := ha
          have a0 : 0 ≤ ea := a0
          have a1 : ea < 24 := a1
          have a2 : 0 ≤ eb := a2
          have a3 : eb < 24 := a3
          have pick : ∃ (L v1 v2 : Addr) (c1 d1 c2 d2 : Int), atI [V.ref l1, .ref l2] u = some (.ref L) ∧ G6 L = some (.lst [.ref v1, .ref v2]) ∧ G6 v1 = some (.tup [.int c1, .int d1]) ∧ G6 v2 = some (.tup [.int c2, .int d2]) ∧ in24 (c1, d1) ∧ in24 (c2, d2) := by
            obtain ⟨z, rfl⟩ := Int.eq_ofNat_of_zero_le u0
            have hz : z < 2 := by omega
            match z, hz with
            | 0, _ => exact ⟨l1, t1, t2, _, _, _, _, rfl, f1, e1, e2, ⟨a0, a1, by show 0 ≤ 23 - (0 + (i : Int)); omega, by show 23 - (0 + (i : Int)) < 24; omega⟩, ⟨by show 0 ≤ 23 - (0 + (i : Int)); omega, by show 23 - (0 + (i : Int)) < 24; omega, a2, a3⟩⟩
            | 1, _ => exact ⟨l2, t, t, _, _, _, _, rfl, f2, et, et, ⟨a0, a1, a2, a3⟩, ⟨a0, a1, a2, a3⟩⟩
          obtain ⟨L, v1, v2, c1, d1, c2, d2, hL, fL, g1, g2, i1, i2⟩ := pick
          refine ⟨l3, _, u, _, rfl, rfl, SqL.of f3, hL, ?_⟩
          -- found = found + fresh
          refine ⟨_, rfl, _, rfl, D, L, _, _, rfl, rfl, B.eD, fL, by rw [B.P.1, el']; exact Nat.le_of_lt (small1000 (by simp; omega)), fun p2 np2 => ?_⟩
          have P2 := (B.P.snoc g1).snoc g2
          rw [List.append_assoc] at P2
          have B := B.move np2 P2
          refine ⟨p2, _, _, _, _, _, _, rfl, B, by omega, by omega, ?_, ?_⟩
          · rw [List.length_append, List.length_append, el']; simp; omega
          · exact in24_snoc (in24_snoc (fun e he => h4 e (List.mem_of_mem_eraseIdx he)) i1.1 i1.2.1 i1.2.2.1 i1.2.2.2) i2.1 i2.2.1 i2.2.2.1 i2.2.2.2
      · refine ite_ff ?_
        refine ⟨_, rfl, rfl, _, rfl, ite2 (fun _ => ?_) (fun _ => ?_)⟩
        · -- way 4
          generalize H6 = HH0 at B ⊢
          refine ⟨_, rfl, .inl ⟨rfl, _, SqL.of B.eD⟩, ?_⟩
          refine ⟨by show 2 ≤ sizeLine; decide, fun t0 nt0 => ?_⟩
          have B := B.same (same_new (o := .tup [.int 0, .int 1]) nt0)
          have e0 : (upd HH0 t0 (.tup [.int 0, .int 1])) t0 = some (.tup [.int 0, .int 1]) := upd_same
          generalize upd HH0 t0 (.tup [.int 0, .int 1]) = HH1 at B e0 ⊢
          refine ⟨by show 2 ≤ sizeLine; decide, fun t1 nt1 => ?_⟩
          have B := B.same (same_new (o := .tup [.int 0, .int 2]) nt1)
          have e1 : (upd HH1 t1 (.tup [.int 0, .int 2])) t1 = some (.tup [.int 0, .int 2]) := upd_same
          replace e0 := same_new (o := .tup [.int 0, .int 2]) nt1 _ _ e0
          generalize upd HH1 t1 (.tup [.int 0, .int 2]) = HH2 at B e0 e1 ⊢
          refine ⟨by show 2 ≤ sizeLine; decide, fun t2 nt2 => ?_⟩
          have B := B.same (same_new (o := .tup [.int 0, .int 3]) nt2)
          have e2 : (upd HH2 t2 (.tup [.int 0, .int 3])) t2 = some (.tup [.int 0, .int 3]) := upd_same
          replace e0 := same_new (o := .tup [.int 0, .int 3]) nt2 _ _ e0
          replace e1 := same_new (o := .tup [.int 0, .int 3]) nt2 _ _ e1
          generalize upd HH2 t2 (.tup [.int 0, .int 3]) = HH3 at B e0 e1 e2 ⊢
          refine ⟨by show 2 ≤ sizeLine; decide, fun t3 nt3 => ?_⟩
          have B := B.same (same_new (o := .tup [.int 1, .int 2]) nt3)
          have e3 : (upd HH3 t3 (.tup [.int 1, .int 2])) t3 = some (.tup [.int 1, .int 2]) := upd_same
          replace e0 := same_new (o := .tup [.int 1, .int 2]) nt3 _ _ e0
          replace e1 := same_new (o := .tup [.int 1, .int 2]) nt3 _ _ e1
          replace e2 := same_new (o := .tup [.int 1, .int 2]) nt3 _ _ e2
          generalize upd HH3 t3 (.tup [.int 1, .int 2]) = HH4 at B e0 e1 e2 e3 ⊢
          refine ⟨by show 2 ≤ sizeLine; decide, fun t4 nt4 => ?_⟩
          have B := B.same (same_new (o := .tup [.int 1, .int 3]) nt4)
          have e4 : (upd HH4 t4 (.tup [.int 1, .int 3])) t4 = some (.tup [.int 1, .int 3]) := upd_same
          replace e0 := same_new (o := .tup [.int 1, .int 3]) nt4 _ _ e0
          replace e1 := same_new (o := .tup [.int 1, .int 3]) nt4 _ _ e1
          replace e2 := same_new (o := .tup [.int 1, .int 3]) nt4 _ _ e2
          replace e3 := same_new (o := .tup [.int 1, .int 3]) nt4 _ _ e3
          generalize upd HH4 t4 (.tup [.int 1, .int 3]) = HH5 at B e0 e1 e2 e3 e4 ⊢
          refine ⟨by show 2 ≤ sizeLine; decide, fun t5 nt5 => ?_⟩
          have B := B.same (same_new (o := .tup [.int 2, .int 3]) nt5)
          have e5 : (upd HH5 t5 (.tup [.int 2, .int 3])) t5 = some (.tup [.int 2, .int 3]) := upd_same
          replace e0 := same_new (o := .tup [.int 2, .int 3]) nt5 _ _ e0
          replace e1 := same_new (o := .tup [.int 2, .int 3]) nt5 _ _ e1
          replace e2 := same_new (o := .tup [.int 2, .int 3]) nt5 _ _ e2
          replace e3 := same_new (o := .tup [.int 2, .int 3]) nt5 _ _ e3
          replace e4 := same_new (o := .tup [.int 2, .int 3]) nt5 _ _ e4
          generalize upd HH5 t5 (.tup [.int 2, .int 3]) = HH6 at B e0 e1 e2 e3 e4 e5 ⊢
          refine ⟨by show 6 ≤ sizeLine; decide, fun l nl => ?_⟩
          have sl := same_new (o := .lst [.ref t0, .ref t1, .ref t2, .ref t3, .ref t4, .ref t5]) nl
          have el : (upd HH6 l (.lst [.ref t0, .ref t1, .ref t2, .ref t3, .ref t4, .ref t5])) l = some (.lst [.ref t0, .ref t1, .ref t2, .ref t3, .ref t4, .ref t5]) := upd_same
          have ol := B.M.off nl
          have B := B.same sl
          replace e0 := sl _ _ e0
          replace e1 := sl _ _ e1
          replace e2 := sl _ _ e2
          replace e3 := sl _ _ e3
          replace e4 := sl _ _ e4
          replace e5 := sl _ _ e5
          generalize upd HH6 l (.lst [.ref t0, .ref t1, .ref t2, .ref t3, .ref t4, .ref t5]) = HH7 at B el e0 e1 e2 e3 e4 e5 ⊢
          refine ⟨_, rfl, m, g, c, _, _, rfl, B.M, by omega, by omega, by omega, fun r H8 r0 r1 M8 b8 => ?_⟩
          have tp := B.M.tp b8
          have B := B.drawn M8 b8
          replace el := b8 _ _ el ol.m ol.g
          replace e0 := tp _ _ e0
          replace e1 := tp _ _ e1
          replace e2 := tp _ _ e2
          replace e3 := tp _ _ e3
          replace e4 := tp _ _ e4
          replace e5 := tp _ _ e5
          have pick : ∃ (t : Addr) (a b : Int), atI [V.ref t0, .ref t1, .ref t2, .ref t3, .ref t4, .ref t5] r = some (.ref t) ∧ H8 t = some (.tup [.int a, .int b]) ∧ 0 ≤ a ∧ a < 24 ∧ 0 ≤ b ∧ b < 24 := by
            obtain ⟨z, rfl⟩ := Int.eq_ofNat_of_zero_le r0
            have hz : z < 6 := by omega
            match z, hz with
            | 0, _ => exact ⟨_, _, _, rfl, e0, by decide, by decide, by decide, by decide⟩
            | 1, _ => exact ⟨_, _, _, rfl, e1, by decide, by decide, by decide, by decide⟩
            | 2, _ => exact ⟨_, _, _, rfl, e2, by decide, by decide, by decide, by decide⟩
            | 3, _ => exact ⟨_, _, _, rfl, e3, by decide, by decide, by decide, by decide⟩
            | 4, _ => exact ⟨_, _, _, rfl, e4, by decide, by decide, by decide, by decide⟩
            | 5, _ => exact ⟨_, _, _, rfl, e5, by decide, by decide, by decide, by decide⟩
          obtain ⟨t, a, b, ht, et, z0, z1, z2, z3⟩ := pick
          refine ⟨l, _, r, _, rfl, rfl, SqL.of el, ht, ?_⟩
          exact ⟨D, _, _, rfl, rfl, B.eD, hsz, fin B et h3 h4 (by omega) (by omega) z0 z1 z2 z3⟩
        · -- the last way
          refine ⟨_, rfl, .inl ⟨rfl, _, SqL.of B.eD⟩, ?_⟩
          refine ⟨_, rfl, _, _, rfl, rfl, _, rfl, ite2 (fun _ => ?_) (fun _ => ?_)⟩
          · refine ⟨by show 2 ≤ sizeLine; decide, fun t nt => ?_⟩
            have B := B.same (same_new (o := .tup [.int 0, .int 1]) nt)
            exact ⟨D, _, _, rfl, rfl, B.eD, hsz, fin B upd_same h3 h4 (by omega) (by omega) (by decide) (by decide) (by decide) (by decide)⟩
          · refine ⟨_, rfl, m, g, c, _, _, rfl, B.M, by omega, by omega, by omega, fun r H7 r0 r1 M7 b7 => ?_⟩
            have B := B.drawn M7 b7
            refine ⟨_, rfl, m, g, c, _, _, rfl, B.M, by omega, by omega, by omega, fun u H8 u0 u1 M8 b8 => ?_⟩
            have B := B.drawn M8 b8
            refine ⟨_, _, rfl, rfl, ?_⟩
            refine ⟨by show 2 ≤ sizeLine; decide, fun t nt => ?_⟩
            have B := B.same (same_new (o := .tup [.int r, .int (1 + u)]) nt)
            exact ⟨D, _, _, rfl, rfl, B.eD, hsz, fin B upd_same h3 h4 (by omega) (by omega) r0 (by omega) (by omega) (by omega)⟩
    · obtain ⟨D, xs, es, y6, y7, y8, k', rfl, B, h1, h2, h3, h4⟩ := hp
      have hx := B.P.1
      -- [found[number] for number in _law_order(m, len(found))]
      refine ⟨_, rfl, _, rfl, D, _, rfl, .inl (SqL.of B.eD), ?_⟩
      refine ⟨m, g, c, _, xs.length, rfl, B.M, by omega, by omega, fun H7 o l M7 b7 no eo perm => ?_⟩
      have B := B.drawn M7 b7
      have oo := M7.off (p := o)
      refine ⟨o, rfl, ⟨_, SqL.of eo⟩, fun R nR => ?_⟩
      have nDR : D ≠ R := ne_of_none B.eD nR
      have lx : ∀ (i : Nat) (n : Nat), l[i]? = some n → n < es.length := fun i n e => by
        have := perm.mem_iff.mp (List.mem_of_getElem? e)
        rw [← hx]
        exact List.mem_range.mp this
      have ll : l.length = xs.length := by rw [perm.length_eq, List.length_range]
      have nvl : (nv l).length = l.length := by unfold nv; rw [List.length_map]
      refine lc_list (K := K) (a := o) (xs := nv l) (fun i H' => Same H7 H' ∧ ∃ (ys : List V) (zs : List (Int × Int)), H' R = some (.lst ys) ∧ ys.length = i ∧ PairsAt H' ys zs ∧ ∀ e ∈ zs, in24 e) ⟨same_new nR, [], [], upd_same, rfl, .nil, fun e he => by simp at he⟩ (fun i H' _ hp => hp.1.seq (SqL.of eo)) (fun i x H' hx2 hp => ?_) (fun H' hp => ?_)
      · obtain ⟨sm, ys, zs, eR, ly, Pz, hz⟩ := hp
        obtain ⟨nn, gn, rfl⟩ : ∃ nn, l[i]? = some nn ∧ x = V.int ((nn : Nat) : Int) := by
          unfold nv at hx2
          rw [List.getElem?_map] at hx2
          cases e : l[i]? with
          | none => rw [e] at hx2; cases hx2
          | some u => rw [e] at hx2; exact ⟨u, rfl, (Option.some.inj hx2).symm⟩
        have hn := lx i nn gn
        have ge : es[nn]? = some es[nn] := List.getElem?_eq_getElem hn
        obtain ⟨t, gt, et⟩ := B.P.2 nn _ ge
        have ha := h4 _ (List.mem_of_getElem? ge)
        generalize es[nn] = e at ge et ha
        obtain ⟨ea, eb⟩ := e
        have hi : i < l.length := (List.getElem?_eq_some_iff.mp gn).1
        refine ⟨rfl, tyes_ite ?_⟩
        refine ⟨_, rfl, _, rfl, D, _, _, _, rfl, rfl, SqL.of (sm _ _ B.eD), atI_nat gt, ?_⟩
        refine ⟨_, eR, small1000 (by omega), fun b o e => ?_, ys ++ [.ref t], zs ++ [(ea, eb)], upd_same, by rw [List.length_append, ly]; rfl, ?_, in24_snoc hz ha.1 ha.2.1 ha.2.2.1 ha.2.2.2⟩
        · rw [upd_ne (ne_of_none e nR)]
          exact sm b o e
        · exact (Pz.snoc (sm _ _ et)).tp (.upd eR)
      · obtain ⟨sm, ys, zs, eR, ly, Pz, hz⟩ := hp
        have lz := Pz.1
        rw [nvl] at ly
        exact q H' R ys zs _ (by omega) (by omega) ⟨B.free nR, B.M.off nR, B.M.same sm, B.b.trans (But.of sm), eR, Pz⟩ (by omega) hz
end
end Sg

/-! sorted(xs), xs a list of tuples of ints of any lengths (1 .. d), in lexicographic order. -/
namespace StX
open PySem PyProof.Rows TS
/-- the rank of a tuple among those of at most d ints in [0, B) -/
def pad (p : Nat) (ns : List Int) : List Int := ns.map (· + 1) ++ List.replicate p 0
def rank (d : Nat) (B : Int) (ns : List Int) : Int := code (B + 1) (pad (d - ns.length) ns)
theorem pad_len {p : Nat} {ns : List Int} : (pad p ns).length = ns.length + p := by simp [pad]
theorem pad_bd {p : Nat} {B : Int} {ns : List Int} (hB : 0 ≤ B) (h : Bd B ns) : Bd (B + 1) (pad p ns) := by
  intro x hx
  rcases List.mem_append.mp hx with z | z
  · obtain ⟨y, hy, rfl⟩ := List.mem_map.mp z
    have := h y hy
    exact ⟨by omega, by omega⟩
  · rw [(List.mem_replicate.mp z).2]
    exact ⟨by omega, by omega⟩
theorem lex_rank {B : Int} (hB : 0 ≤ B) : ∀ (ns ms : List Int) (p q : Nat), ns.length + p = ms.length + q → Bd B ns → Bd B ms → decide (code (B + 1) (pad p ns) < code (B + 1) (pad q ms)) = HT.lexLt ns ms
  | [], [], p, q, hl, _, _ => by
    have : p = q := by simpa using hl
    subst this
    rw [HT.lexLt_nil_nil]
    exact decide_eq_false (Int.lt_irrefl _)
  | [], m :: ms, p, q, hl, _, h2 => by
    rw [HT.lexLt_nil_cons]
    obtain ⟨p, rfl⟩ : ∃ r, p = r + 1 := ⟨p - 1, by simp at hl; omega⟩
    have e1 : pad (p + 1) [] = 0 :: pad p [] := by simp [pad, List.replicate_succ]
    have e2 : pad q (m :: ms) = (m + 1) :: pad q ms := rfl
    rw [e1, e2]
    have := h2 m List.mem_cons_self
    exact decide_eq_true (code_lt (by rw [pad_len, pad_len]; simp at hl ⊢; omega) (pad_bd hB fun x hx => by simp at hx) (pad_bd hB h2.tail) (by omega))
  | n :: ns, [], p, q, hl, h1, _ => by
    rw [HT.lexLt_cons_nil]
    obtain ⟨q, rfl⟩ : ∃ r, q = r + 1 := ⟨q - 1, by simp at hl; omega⟩
    have e1 : pad (q + 1) [] = 0 :: pad q [] := by simp [pad, List.replicate_succ]
    have e2 : pad p (n :: ns) = (n + 1) :: pad p ns := rfl
    rw [e1, e2]
    have := h1 n List.mem_cons_self
    have z := code_lt (B := B + 1) (d := 0) (e := n + 1) (r := pad q []) (q := pad p ns) (by rw [pad_len, pad_len]; simp at hl ⊢; omega) (pad_bd hB fun x hx => by simp at hx) (pad_bd hB h1.tail) (by omega)
    exact decide_eq_false (by omega)
  | n :: ns, m :: ms, p, q, hl, h1, h2 => by
    rw [HT.lexLt_cons]
    have hl' : ns.length + p = ms.length + q := by simp at hl; omega
    have e1 : pad p (n :: ns) = (n + 1) :: pad p ns := rfl
    have e2 : pad q (m :: ms) = (m + 1) :: pad q ms := rfl
    have el : (pad p ns).length = (pad q ms).length := by rw [pad_len, pad_len]; exact hl'
    rw [e1, e2]
    by_cases e : n = m
    · rw [if_pos e, ← lex_rank hB ns ms p q hl' h1.tail h2.tail, e]
      exact decide_eq_decide.mpr (code_same el)
    · rw [if_neg e]
      refine decide_eq_decide.mpr ⟨fun x => ?_, fun x => code_lt el (pad_bd hB h1.tail) (pad_bd hB h2.tail) (by omega)⟩
      rcases Int.lt_trichotomy n m with y | y | y
      · exact y
      · exact absurd y e
      · have := code_lt (d := m + 1) (e := n + 1) el.symm (pad_bd hB h2.tail) (pad_bd hB h1.tail) (by omega)
        omega
theorem rank_lt {d : Nat} {B : Int} (hB : 0 ≤ B) {ns ms : List Int} (l1 : ns.length ≤ d) (l2 : ms.length ≤ d) (h1 : Bd B ns) (h2 : Bd B ms) : decide (rank d B ns < rank d B ms) = HT.lexLt ns ms :=
  lex_rank hB ns ms _ _ (by omega) h1 h2
theorem rank_le {d : Nat} {B : Int} (hB : 0 ≤ B) {ns ms : List Int} (l1 : ns.length ≤ d) (l2 : ms.length ≤ d) (h1 : Bd B ns) (h2 : Bd B ms) (h : rank d B ns ≤ rank d B ms) : HT.lexLt ms ns = false := by
  rw [← rank_lt hB l2 l1 h2 h1]
  exact decide_eq_false (by omega)
section
variable {prog : Program} {w : World} {A : Around} {E : Value → Shared → Prop} {s : Shared}
theorem lex_any {b fin : Bool} {Q : Bool → Shared → Prop} : ∀ {xs ys : List Value} {ns ms : List Int} (i : Nat), IntsAre xs ns → IntsAre ys ms → fin = decide (ns.length < ms.length) → Q (HT.lexLt ns ms) s → PySem.W.KatLex prog w A b fin Q (xs.zip ys) i s
  | _, _, _, _, i, .nil, .nil, hf, h => by
    rw [HT.lexLt_nil_nil] at h
    rw [hf]
    exact PySem.W.kat_nil h
  | _, _, _, _, i, .nil, .cons q u hy, hf, h => by
    rw [HT.lexLt_nil_cons] at h
    rw [hf]
    refine PySem.W.kat_nil ?_
    rw [decide_eq_true (by simp)]
    exact h
  | _, _, _, _, i, .cons p t hx, .nil, hf, h => by
    rw [HT.lexLt_cons_nil] at h
    rw [hf]
    exact PySem.W.kat_nil h
  | _, _, _, _, i, @IntsAre.cons p t xs ns hx, @IntsAre.cons q u ys ms hy, hf, h => by
    rw [HT.lexLt_cons] at h
    show PySem.W.KatLex prog w A b fin Q ((Value.int p t, Value.int q u) :: xs.zip ys) i s
    refine PySem.W.kat_cons (wpAny_eqBool_int ?_)
    by_cases e : p = q
    · rw [if_pos e] at h
      rw [show (p == q) = true from beq_iff_eq.mpr e]
      exact PySem.W.kat_yes (lex_any (i + 1) hx hy (by rw [hf]; exact decide_eq_decide.mpr (by simp)) h)
    · rw [if_neg e] at h
      rw [show (p == q) = false from beq_eq_false_iff_ne.mpr e]
      exact PySem.W.kat_no (oneLt_ints _ h)
/-- what is sorted: tuples of 1 .. d ints in [0, B) -/
def TupsV (h : Heap) (d : Nat) (B : Int) (vs : List Value) : Prop := ∀ v, v ∈ vs → ∃ ns, TupInts h v ns ∧ 1 ≤ ns.length ∧ ns.length ≤ d ∧ Bd B ns
theorem TupsV.keeps {h h' : Heap} {d : Nat} {B : Int} {vs : List Value} (x : TupsV h d B vs) (k : ∀ b o, h.get? b = some o → o.cls = .type "tuple" → h'.get? b = some o) : TupsV h' d B vs := fun v hv =>
  let ⟨ns, t, r⟩ := x v hv; ⟨ns, t.keeps k, r⟩
theorem firstsV {h : Heap} {d : Nat} {B : Int} : ∀ vs : List Value, TupsV h d B vs → ∃ fs, PySem.W.KatTups h vs fs ∧ fs.length = vs.length ∧ ∀ f, f ∈ fs → ∃ n t, f = Value.int n t
  | [], _ => ⟨[], .nil, rfl, fun f hf => by simp at hf⟩
  | v :: vs, x => by
    obtain ⟨fs, k, hl, hi⟩ := firstsV vs fun u hu => x u (List.mem_cons_of_mem _ hu)
    obtain ⟨ns, ⟨a, xs, rfl, ⟨o, ho, hc, n, hdt⟩, i⟩, hn, _⟩ := x v List.mem_cons_self
    cases q : xs.toList with
    | nil =>
      rw [q] at i
      have l := i.length
      rw [List.length_nil] at l
      omega
    | cons y ys =>
      obtain ⟨m, t, hy⟩ := i.all y (by rw [q]; exact List.mem_cons_self)
      have z := congrArg (fun l : List Value => l[0]?) q
      refine ⟨y :: fs, .cons ho hc hdt (by simpa using z) k, by simp [hl], fun f hf => ?_⟩
      rcases List.mem_cons.mp hf with e | hf
      · exact ⟨m, t, e.trans hy⟩
      · exact hi f hf
theorem kindV {d : Nat} {B : Int} {vs : List Value} (hB : 0 ≤ B) (h2 : 2 ≤ vs.length) (x : TupsV s.heap d B vs) (r : Value → Int) (hr : ∀ v, v ∈ vs → ∀ ns, TupInts s.heap v ns → r v = rank d B ns) (Q : SortKind → Shared → Prop)
    (h : ∀ κ, Cmp prog w A s κ (pairsOf vs) r → Q κ s) : wpAny (model prog w) A (keyKind' vs.toArray) Q E s := by
  obtain ⟨fs, k, hl, hi⟩ := firstsV vs x
  refine PySem.W.kat_kind (T := Value.type "int") k (by omega) (fun f hf => ?_) rfl (h _ fun p q hp hq Q' E' hQ => ?_)
  · obtain ⟨n, t, rfl⟩ := hi f hf
    exact .of_pure rfl
  · rw [pairsOf_toList] at hp hq
    have mp := (mem_zip_self hp).2
    have mq := (mem_zip_self hq).2
    obtain ⟨ns, tp, _, lp, bp⟩ := x _ mp
    obtain ⟨ms, tq, _, lq, bq⟩ := x _ mq
    rw [hr _ mp _ tp, hr _ mq _ tq, rank_lt hB lp lq bp bq] at hQ
    obtain ⟨a, xs, e1, ⟨o, ho, hc, n, hdt⟩, i⟩ := tp
    obtain ⟨a', ys, e2, ⟨o', ho', hc', n', hdt'⟩, i'⟩ := tq
    rw [e1, e2]
    refine PySem.W.kat_lt ho hdt ho' hdt' (lex_any 0 i i' ?_ hQ)
    have l1 := i.length
    have l2 := i'.length
    rw [Array.length_toList] at l1 l2
    exact decide_eq_decide.mpr (by omega)
end
end StX
namespace StX
open PySem PyProof.Rows TS
section
variable {prog : Program} {w : World} {A : Around} {E : Value → Shared → Prop} {s : Shared}
/-- the heap behind the copy that sorted makes -/
abbrev copied (h : Heap) (vs : List Value) : Heap := ((h.push (seqObj "list" #[] 0)).update h.objs.size (Obj.mapSeq (· ++ vs.toArray))).push (seqObj "list" vs.toArray 0)
theorem copied_old {h : Heap} {vs : List Value} {b : Addr} {o : Obj} (q : h.get? b = some o) : (copied h vs).get? b = some o := by
  have hb : b < h.objs.size := Heap.lt_size q
  have n1 : b ≠ h.objs.size := Nat.ne_of_lt hb
  have n2 : b ≠ ((h.push (seqObj "list" #[] 0)).update h.objs.size (Obj.mapSeq (· ++ vs.toArray))).objs.size := by
    rw [Heap.size_update, size_push']
    exact Nat.ne_of_lt (Nat.lt_succ_of_lt hb)
  rw [Heap.get?_push_ne _ _ _ n2, Heap.get?_update_ne _ _ _ _ n1, Heap.get?_push_ne _ _ _ n1]
  exact q
theorem call_sortedV {l : Addr} {vs : List Value} {d : Nat} {B : Int} {Q : Value → Shared → Prop} (hB : 0 ≤ B) (hl : s.heap.IsList l vs.toArray) (h64 : vs.length < 64) (x : TupsV s.heap d B vs)
    (k : ∀ out : Array Value, out.toList.Perm vs → out.toList.Pairwise (fun u v => rank d B (intsOf s.heap u) ≤ rank d B (intsOf s.heap v)) → Q (.ref (s.heap.objs.size + 1)) { s with heap := sortedAll s.heap vs out }) :
    wpAny (model prog w) A (call (.builtin "sorted") [.ref l]) Q E s := by
  have sz : ((s.heap.push (seqObj "list" #[] 0)).update s.heap.objs.size (Obj.mapSeq (· ++ vs.toArray))).objs.size = s.heap.objs.size + 1 := by
    rw [Heap.size_update, size_push']
  have at1 : (copied s.heap vs).get? (s.heap.objs.size + 1) = some (seqObj "list" vs.toArray 0) := by
    rw [← sz]
    exact Heap.get?_push_size _ rfl
  have rk : ∀ {h : Heap}, (∀ b o, s.heap.get? b = some o → o.cls = .type "tuple" → h.get? b = some o) → ∀ v, v ∈ vs → ∀ ns, TupInts h v ns → rank d B (intsOf s.heap v) = rank d B ns := fun kp v hv ns t => by
    obtain ⟨n0, t0, _⟩ := x v hv
    rw [t0.ints, t.ints.symm.trans (t0.keeps kp).ints]
  refine Calls.call_function_entry kind_sorted plain_sorted entry_sorted (args_sorted1 _) ?_
  unfold Builtin.«sorted»
  refine wpAny_bind (m := checkCount "sorted" 1 1 _) (wpAny_pure (wpAny_bind (collect_list hl ?_ (by rw [sizeLine_eq]; omega))))
  refine wpAny_bind (wpAny_newList ?_ (by rw [sizeLine_eq]; omega))
  show wpAny _ _ _ _ _ { s with heap := copied s.heap vs }
  rw [sz]
  refine wpAny_bind (wpAny_holding (wpAny_call_entry slot_list_sort ⟨_, at1, rfl⟩ entry_list_sort ?_ (args_list_sort _)))
  have mid : ∀ b o, (copied s.heap vs).get? b = some o → o.cls = .type "tuple" → (midHeap (copied s.heap vs) (s.heap.objs.size + 1) vs).get? b = some o := fun b o e hc => by
    refine midHeap_old (fun z => ?_) e
    rw [z, at1] at e
    cases e
    simp at hc
  refine SK.plain_sort (r := fun v => rank d B (intsOf s.heap v)) at1 h64 (fun h2 Q' hQ => ?_) fun ps out h1 h2 h3 => ?_
  · have kp : ∀ b o, s.heap.get? b = some o → o.cls = .type "tuple" → (midHeap (copied s.heap vs) (s.heap.objs.size + 1) vs).get? b = some o := fun b o e hc => mid b o (copied_old e) hc
    exact kindV (s := { s with heap := midHeap (copied s.heap vs) (s.heap.objs.size + 1) vs }) hB h2 (x.keeps kp) _ (rk kp) Q' hQ
  · obtain ⟨a1, a2⟩ := out_rank (r := fun v => rank d B (intsOf s.heap v)) h1 h2 h3
    exact ⟨_, rfl, wpAny_pure ⟨_, rfl, k out a1 a2⟩⟩
end
end StX
namespace StX
open PySem PySem.Spec PyProof.Rows L2
/-- sorted(xs), xs a list of fewer than 64 tuples of 1 .. d ints in [0, B): a new list of the same, none less than one ahead of it -/
def rSortV (K : PySem.W.Frag) (d : Nat) (B : Int) : List V → Hp → VK → Prop := fun vs H Q => ∃ (a : Addr) (xs : List V), vs = [V.ref a] ∧ SqL K H a xs ∧ xs.length < 64 ∧ (∀ x ∈ xs, ∃ ns, TupI K H x ns ∧ 1 ≤ ns.length ∧ ns.length ≤ d ∧ TS.Bd B ns) ∧
  ∀ (ys : List V) (p : Addr), ys.Perm xs → ys.Pairwise (fun x y => ∀ n m, TupI K H x n → TupI K H y m → n.length ≤ d → m.length ≤ d → TS.Bd B n → TS.Bd B m → HT.lexLt m n = false) → H p = none → Q (.ref p) (upd H p (.lst ys))
theorem cr_sortV {X : Cx} {K : PySem.W.Frag} {d : Nat} {B : Int} (hK : X.K = K) (hB : 0 ≤ B) : CallR X (.builtin "sorted") (rSortV K d B) := by
  subst hK
  intro pins s σ H vs us Q I r h
  obtain ⟨a, xs, rfl, hs, h64, hx, q⟩ := h
  obtain ⟨its, rv, hl, hz⟩ := I.list hs
  rw [Vals.ref1 r]
  have isR : ∀ x ∈ xs, ∃ t, x = V.ref t := fun x m => by
    obtain ⟨_, ⟨t, e, _⟩, _⟩ := hx x m
    exact ⟨t, e⟩
  obtain ⟨e1, e2⟩ := bkV_refs rv isR
  refine call_sortedV (d := d) (B := B) hB hl.isList (by rw [← rv.length]; exact h64) (fun v hv => ?_) fun out h1 h2 => ?_
  · obtain ⟨t, rfl⟩ := e2 v hv
    obtain ⟨ns, ⟨t', e, ht⟩, hn, hd, hb⟩ := hx (V.ref t) (by rw [e1]; exact List.mem_map.mpr ⟨_, hv, rfl⟩)
    cases e
    exact ⟨ns, tupI_raw I ht, hn, hd, hb⟩
  · obtain ⟨ep, at2⟩ := PyProof.Rows.sortedAll_at s.heap its out
    have perm : (out.toList.map bkV).Perm xs := by rw [e1]; exact h1.map bkV
    refine ⟨.ref _, upd H (s.heap.objs.size + 1) (.lst (out.toList.map bkV)), I.laid (t' := s.toks) (fun _ _ => PyProof.Rows.sortedAll_old) (Nat.le_succ _)
      ⟨by rw [perm.length_eq]; exact hz, out.toList, ep, bkV_vals fun u hu => e2 u (h1.mem_iff.mp hu), at2⟩, rfl, q _ _ perm ?_ (I.hok.fresh (Nat.le_succ _))⟩
    rw [List.pairwise_map]
    refine h2.imp fun {u v} huv n m hn hm l1 l2 b1 b2 => ?_
    obtain ⟨t, et, ht⟩ := hn
    obtain ⟨t', et', ht'⟩ := hm
    rw [bkV_ref et, bkV_ref et', (tupI_raw I ht).ints, (tupI_raw I ht').ints] at huv
    exact rank_le hB l1 l2 b1 b2 huv
end StX

/-! The laws' own stars: what they are (the mathematics). -/
namespace Sg
open PySem PySem.Spec PyProof.Rows L2 RZ
def hasP (es : List (Int × Int)) (p : Int) (t : Nat) : Bool := match es[t]? with
  | some e => decide (e.1 = p) || decide (e.2 = p)
  | none => false
def starOf (es : List (Int × Int)) (p : Int) : List Int := ((List.range es.length).filter (hasP es p)).map fun t => ((t : Nat) : Int)
def starsTo (es : List (Int × Int)) (i : Nat) : List (List Int) := ((List.range i).map fun p => starOf es ((p : Nat) : Int)).filter fun s => !s.isEmpty
def starsOf (es : List (Int × Int)) : List (List Int) := starsTo es 24
theorem starsTo_succ (es : List (Int × Int)) (i : Nat) : starsTo es (i + 1) = starsTo es i ++ (if (starOf es ((i : Nat) : Int)).isEmpty then [] else [starOf es ((i : Nat) : Int)]) := by
  unfold starsTo
  rw [List.range_succ, List.map_append, List.filter_append]
  congr 1
  cases h : (starOf es ((i : Nat) : Int)).isEmpty <;> simp [h]
theorem star_mem {es : List (Int × Int)} {p t : Int} (h : t ∈ starOf es p) : ∃ n : Nat, t = n ∧ n < es.length ∧ hasP es p n = true := by
  unfold starOf at h
  obtain ⟨n, hn, rfl⟩ := List.mem_map.mp h
  obtain ⟨h1, h2⟩ := List.mem_filter.mp hn
  exact ⟨n, rfl, List.mem_range.mp h1, h2⟩
theorem star_asc (es : List (Int × Int)) (p : Int) : (starOf es p).Pairwise (· < ·) := by
  unfold starOf
  rw [List.pairwise_map]
  refine (List.pairwise_lt_range.filter _).imp fun {a b} h => ?_
  omega
theorem setB_of {m : Int} {s : List Int} (h : ∀ t ∈ s, 0 ≤ t ∧ t < m) (a : s.Pairwise (· < ·)) : setB m s = true := by
  unfold setB
  rw [Bool.and_eq_true, List.all_map]
  refine ⟨List.all_eq_true.mpr fun t ht => ?_, List.all_eq_true.mpr fun i hi => ?_⟩
  · have := h t ht
    unfold inB
    rw [decide_eq_true this.1, decide_eq_true this.2]; rfl
  · have hi := List.mem_range.mp hi
    have g1 : s[i]? = some s[i] := List.getElem?_eq_getElem (by omega)
    have g2 : s[i + 1]? = some s[i + 1] := List.getElem?_eq_getElem (by omega)
    show ltB s i = true
    unfold ltB
    rw [g1, g2]
    exact decide_eq_true (List.pairwise_iff_getElem.mp a i (i + 1) (by omega) (by omega) (by omega))
theorem star_count (es : List (Int × Int)) (p : Int) (n : Nat) : (starOf es p).count ((n : Nat) : Int) = if n < es.length ∧ hasP es p n = true then 1 else 0 := by
  have nd : (starOf es p).Nodup := (star_asc es p).imp fun h => Int.ne_of_lt h
  by_cases h : n < es.length ∧ hasP es p n = true
  · rw [if_pos h]
    have mem : ((n : Nat) : Int) ∈ starOf es p := by
      unfold starOf
      exact List.mem_map.mpr ⟨n, List.mem_filter.mpr ⟨List.mem_range.mpr h.1, h.2⟩, rfl⟩
    have h1 := List.nodup_iff_count.mp nd ((n : Nat) : Int)
    have h2 := List.count_pos_iff.mpr mem
    omega
  · rw [if_neg h]
    refine List.count_eq_zero_of_not_mem fun m => h ?_
    obtain ⟨k, e, h1, h2⟩ := star_mem m
    have : k = n := by omega
    subst this
    exact ⟨h1, h2⟩
theorem flat_count (es : List (Int × Int)) (t : Int) : ∀ i : Nat, (starsTo es i).flatten.count t = ((List.range i).map fun p => (starOf es ((p : Nat) : Int)).count t).sum
  | 0 => rfl
  | i + 1 => by
    rw [starsTo_succ, List.flatten_append, List.count_append, flat_count es t i, List.range_succ, List.map_append, List.sum_append]
    congr 1
    cases h : (starOf es ((i : Nat) : Int)).isEmpty with
    | true =>
      have : starOf es ((i : Nat) : Int) = [] := List.isEmpty_iff.mp h
      simp [this]
    | false => simp
/-- how many places a tie has, below i -/
theorem ends_count {es : List (Int × Int)} {n : Nat} {e : Int × Int} (he : es[n]? = some e) : ∀ i : Nat, ((List.range i).map fun p => (starOf es ((p : Nat) : Int)).count ((n : Nat) : Int)).sum =
    (if 0 ≤ e.1 ∧ e.1 < i then 1 else 0) + (if 0 ≤ e.2 ∧ e.2 < i ∧ e.1 ≠ e.2 then 1 else 0)
  | 0 => by
    rw [if_neg (by omega), if_neg (by omega)]
    rfl
  | i + 1 => by
    rw [List.range_succ, List.map_append, List.sum_append, ends_count he i]
    have hn := (List.getElem?_eq_some_iff.mp he).1
    have hp : hasP es ((i : Nat) : Int) n = (decide (e.1 = ((i : Nat) : Int)) || decide (e.2 = ((i : Nat) : Int))) := by unfold hasP; rw [he]
    have e1 : ([i].map fun p => (starOf es ((p : Nat) : Int)).count ((n : Nat) : Int)).sum = if e.1 = ((i : Nat) : Int) ∨ e.2 = ((i : Nat) : Int) then 1 else 0 := by
      show (starOf es ((i : Nat) : Int)).count ((n : Nat) : Int) + 0 = _
      rw [star_count, hp]
      by_cases h : e.1 = ((i : Nat) : Int) ∨ e.2 = ((i : Nat) : Int)
      · rw [if_pos h, if_pos ⟨hn, by simpa using h⟩]
      · rw [if_neg h, if_neg fun z => h (by simpa using z.2)]
    rw [e1]
    obtain ⟨a, b⟩ := e
    show (if 0 ≤ a ∧ a < (i : Int) then 1 else 0) + (if 0 ≤ b ∧ b < (i : Int) ∧ a ≠ b then 1 else 0) + (if a = (i : Int) ∨ b = (i : Int) then 1 else 0) = (if 0 ≤ a ∧ a < ((i + 1 : Nat) : Int) then 1 else 0) + (if 0 ≤ b ∧ b < ((i + 1 : Nat) : Int) ∧ a ≠ b then 1 else 0)
    by_cases h1 : a = (i : Int)
    · by_cases h2 : b = (i : Int)
      · rw [if_neg (by omega), if_neg (by omega), if_pos (by omega), if_pos (by omega), if_neg (by omega)]
      · by_cases h3 : 0 ≤ b ∧ b < (i : Int)
        · rw [if_neg (by omega), if_pos (by omega), if_pos (by omega), if_pos (by omega), if_pos (by omega)]
        · rw [if_neg (by omega), if_neg (by omega), if_pos (by omega), if_pos (by omega), if_neg (by omega)]
    · by_cases h2 : b = (i : Int)
      · by_cases h3 : 0 ≤ a ∧ a < (i : Int)
        · rw [if_pos (by omega), if_neg (by omega), if_pos (by omega), if_pos (by omega), if_pos (by omega)]
        · rw [if_neg (by omega), if_neg (by omega), if_pos (by omega), if_neg (by omega), if_pos (by omega)]
      · have c1 : (0 ≤ a ∧ a < (i : Int)) ↔ (0 ≤ a ∧ a < ((i + 1 : Nat) : Int)) := by omega
        have c2 : (0 ≤ b ∧ b < (i : Int) ∧ a ≠ b) ↔ (0 ≤ b ∧ b < ((i + 1 : Nat) : Int) ∧ a ≠ b) := by omega
        rw [if_neg (show ¬ (a = (i : Int) ∨ b = (i : Int)) by omega)]
        simp only [c1, c2]
        omega
theorem stars_facts {es : List (Int × Int)} (hl : es.length ≤ 12) (h24 : ∀ e ∈ es, in24 e) {ss : List (List Int)} (hp : ss.Perm (starsOf es)) (hle : ∀ (i : Nat) (x y : List Int), ss[i]? = some x → ss[i + 1]? = some y → HT.lexLt y x = false) : Good ss es.length ∧ ∀ s ∈ ss, s.length ≤ 100 := by
  have mem : ∀ s ∈ ss, s ≠ [] ∧ ∃ p, s = starOf es p := fun s hs => by
    have := hp.mem_iff.mp hs
    unfold starsOf starsTo at this
    obtain ⟨h1, h2⟩ := List.mem_filter.mp this
    obtain ⟨p, _, rfl⟩ := List.mem_map.mp h1
    exact ⟨fun z => by rw [z] at h2; simp at h2, _, rfl⟩
  have len : ∀ s ∈ ss, s.length ≤ 12 := fun s hs => by
    obtain ⟨_, p, rfl⟩ := mem s hs
    unfold starOf
    rw [List.length_map]
    exact Nat.le_trans (List.length_filter_le _ _) (by rw [List.length_range]; exact hl)
  have cnt : ∀ t : Int, ss.flatten.count t = (starsOf es).flatten.count t := fun t => (hp.flatten).count_eq t
  have inT : ∀ t : Int, 0 < ss.flatten.count t → ∃ n : Nat, t = n ∧ n < es.length := fun t ht => by
    obtain ⟨s, hs, hts⟩ := List.mem_flatten.mp (List.count_pos_iff.mp ht)
    obtain ⟨_, p, rfl⟩ := mem s hs
    obtain ⟨n, e, h, _⟩ := star_mem hts
    exact ⟨n, e, h⟩
  have val : ∀ n : Nat, n < es.length → ss.flatten.count ((n : Nat) : Int) = 1 ∨ ss.flatten.count ((n : Nat) : Int) = 2 := fun n hn => by
    have ge : es[n]? = some es[n] := List.getElem?_eq_getElem hn
    have i4 := h24 _ (List.getElem_mem hn)
    generalize es[n] = e at ge i4
    obtain ⟨a0, a1, b0, b1⟩ := i4
    rw [cnt]
    unfold starsOf
    rw [flat_count, ends_count ge 24, if_pos ⟨a0, by omega⟩]
    by_cases h : e.1 = e.2
    · rw [if_neg fun z => z.2.2 h]; exact .inl rfl
    · rw [if_pos ⟨b0, by omega, h⟩]; exact .inr rfl
  refine ⟨⟨?_, fun s hs => (mem s hs).1, fun s hs => ?_, hle, fun t => ?_, hl, fun t ht => ⟨fun z => ?_, fun z => ?_⟩⟩, fun s hs => Nat.le_trans (len s hs) (by decide)⟩
  · rw [hp.length_eq]
    unfold starsOf starsTo
    exact Nat.le_trans (List.length_filter_le _ _) (by rw [List.length_map, List.length_range]; decide)
  · obtain ⟨_, p, rfl⟩ := mem s hs
    refine setB_of (fun t ht => ?_) (star_asc es p)
    obtain ⟨n, e, h, _⟩ := star_mem ht
    omega
  · by_cases z : 0 < ss.flatten.count t
    · obtain ⟨n, rfl, hn⟩ := inT t z
      rcases val n hn with v | v <;> omega
    · omega
  · obtain ⟨n, e, hn⟩ := inT _ z
    omega
  · rcases val t z with v | v <;> omega
end Sg

/-! The laws' own stars. -/
namespace Sg
open PySem PySem.Spec PyProof.Rows L2 RZ StX
abbrev sStars : Stmt := topS 26
abbrev sLWeb : Stmt := topS 27
/-- tuples of integers stand behind one another, as objects that are known -/
def TupsAt (H : Hp) (xs : List V) (ss : List (List Int)) : Prop := xs.length = ss.length ∧ ∀ (i : Nat) (s : List Int), ss[i]? = some s → ∃ t : Addr, xs[i]? = some (.ref t) ∧ H t = some (.tup (s.map V.int))
theorem TupsAt.tp {H H' : Hp} {xs : List V} {ss : List (List Int)} (h : TupsAt H xs ss) (t : Tp H H') : TupsAt H' xs ss := ⟨h.1, fun i e q => let ⟨a, h1, h2⟩ := h.2 i e q; ⟨a, h1, t _ _ h2⟩⟩
theorem TupsAt.nil {H : Hp} : TupsAt H [] [] := ⟨rfl, fun i e q => by simp at q⟩
theorem TupsAt.snoc {H : Hp} {xs : List V} {ss : List (List Int)} {t : Addr} {s : List Int} (h : TupsAt H xs ss) (e : H t = some (.tup (s.map V.int))) : TupsAt H (xs ++ [.ref t]) (ss ++ [s]) := by
  refine ⟨by rw [List.length_append, List.length_append, h.1]; rfl, fun i p q => ?_⟩
  by_cases hi : i < ss.length
  · rw [List.getElem?_append_left hi] at q
    obtain ⟨u, h1, h2⟩ := h.2 i p q
    exact ⟨u, by rw [List.getElem?_append_left (by rw [h.1]; exact hi)]; exact h1, h2⟩
  · rw [List.getElem?_append_right (by omega)] at q
    have hz : i - ss.length = 0 := by
      have := (List.getElem?_eq_some_iff.mp q).1
      simpa using this
    rw [hz] at q
    cases q
    exact ⟨t, by rw [List.getElem?_append_right (by rw [h.1]; omega), h.1, hz]; rfl, e⟩
theorem TupsAt.stars {K : PySem.W.Frag} {H : Hp} {xs : List V} {ss : List (List Int)} (h : TupsAt H xs ss) : Stars K H xs ss := ⟨h.1, fun i s e => let ⟨a, h1, h2⟩ := h.2 i s e; ⟨a, h1, SqT.of h2⟩⟩
def intV : V → Int
  | .int i => i
  | _ => 0
theorem intV_map (s : List Int) : (s.map V.int).map intV = s := by
  rw [List.map_map]
  exact List.map_id'' (fun _ => rfl) s
/-- the integers of the tuple at v -/
def decT (H : Hp) : V → List Int
  | .ref t => match H t with
    | some (.tup xs) => xs.map intV
    | _ => []
  | _ => []
theorem decT_at {H : Hp} {t : Addr} {s : List Int} (e : H t = some (.tup (s.map V.int))) : decT H (.ref t) = s := by
  show (match H t with | some (.tup xs) => xs.map intV | _ => []) = s
  rw [e]
  exact intV_map s
theorem TupsAt.dec {H : Hp} {xs : List V} {ss : List (List Int)} (h : TupsAt H xs ss) : xs.map (decT H) = ss := by
  apply List.ext_getElem?
  intro i
  rw [List.getElem?_map]
  cases e : ss[i]? with
  | none =>
    have : ss.length ≤ i := List.getElem?_eq_none_iff.mp e
    rw [List.getElem?_eq_none (by rw [h.1]; exact this)]
    rfl
  | some s =>
    obtain ⟨t, h1, h2⟩ := h.2 i s e
    rw [h1]
    exact congrArg some (decT_at h2)
/-- the same tuples in another order -/
theorem TupsAt.perm {H : Hp} {xs ys : List V} {ss : List (List Int)} (h : TupsAt H xs ss) (p : ys.Perm xs) : TupsAt H ys (ys.map (decT H)) ∧ (ys.map (decT H)).Perm ss := by
  refine ⟨⟨by rw [List.length_map], fun i s e => ?_⟩, by rw [← h.dec]; exact p.map _⟩
  rw [List.getElem?_map] at e
  cases g : ys[i]? with
  | none => rw [g] at e; cases e
  | some y =>
    rw [g] at e
    have e : decT H y = s := Option.some.inj e
    obtain ⟨j, hj, ej⟩ := List.mem_iff_getElem.mp (p.mem_iff.mp (List.mem_of_getElem? g))
    have gs : ss[j]? = some (ss[j]'(by rw [← h.1]; exact hj)) := List.getElem?_eq_getElem _
    obtain ⟨t, h1, h2⟩ := h.2 j _ gs
    rw [List.getElem?_eq_getElem hj, ej] at h1
    cases h1
    rw [decT_at h2] at e
    rw [e] at h2
    exact ⟨t, rfl, h2⟩
theorem eqv_tnil (l : List Int) : PyData.eqv (.tuple (l.map PyData.int)) (.tuple []) = l.isEmpty := by cases l <;> rfl
theorem shapedT_ints (gs : List Int) : SeqAt.shaped (.tuple (gs.map PyData.int)) = true := shaped_ints gs
theorem op_inK {X : Cx} {K : PySem.W.Frag} (h : X.K = K) : OpR X (compareOp .In) (rIn K false) := by
  subst h
  exact op_in_seq
theorem in_pair (p a b : Int) : inV (.int p) [.int a, .int b] = (decide (a = p) || decide (b = p)) := by
  show ((a == p) || ((b == p) || false)) = _
  rw [Bool.or_false]
  rfl
theorem star_len {es : List (Int × Int)} {s : List Int} {i : Nat} (h : s ∈ starsTo es i) : 1 ≤ s.length ∧ s.length ≤ es.length ∧ ∀ t ∈ s, 0 ≤ t ∧ t < es.length := by
  unfold starsTo at h
  obtain ⟨h1, h2⟩ := List.mem_filter.mp h
  obtain ⟨p, _, rfl⟩ := List.mem_map.mp h1
  refine ⟨?_, ?_, fun t ht => ?_⟩
  · cases e : starOf es ((p : Nat) : Int) with
    | nil => rw [e] at h2; simp at h2
    | cons _ _ => simp
  · unfold starOf
    rw [List.length_map]
    exact Nat.le_trans (List.length_filter_le _ _) (by rw [List.length_range]; exact Nat.le_refl _)
  · obtain ⟨n, e, hn, _⟩ := star_mem ht
    omega
section
variable {P : Program} {w : World} {K : PySem.W.Frag} {mg : Str → Option Value} {base : Heap}
def spStars (K : PySem.W.Frag) : Sp := fun vs H Q _ => ∃ (p : Addr) (xs : List V) (es : List (Int × Int)), vs = [.ref p] ∧ SqL K H p xs ∧ PairsAt H xs es ∧ es.length ≤ 12 ∧ (∀ e ∈ es, in24 e) ∧
  ∀ (H' : Hp) (q : Addr) (ys : List V) (ss : List (List Int)), Same H H' → H q = none → H' q = some (.tup ys) → TupsAt H' ys ss → ss.Perm (starsOf es) → Good ss es.length → (∀ s ∈ ss, s.length ≤ 100) → Q (.ref q) H'
theorem scStars : FnScope ["ends", "found", "place", "star", "tie"] ["ends"] (defScope sStars) := ⟨rfl, rfl, rfl, by decide +kernel, rfl, by decide +kernel, by decide +kernel⟩
theorem ok_stars {f : Addr} {fd : FuncData} (F : Fun K "_law_stars" "_law_stars" sStars f fd) (mt : mg "tuple" = none) (mra : mg "range" = none) (mle : mg "len" = none) (mso : mg "sorted" = none) : FnOk P w K mg base CX0 1 f fd ["ends"] (spStars K) := by
  refine F.ok scStars (fun vs H Q E h => ?_) (fun cdv A outer s H vs Q E hr h => ?_)
  · obtain ⟨p, xs, es, rfl, _⟩ := h
    rfl
  · obtain ⟨p, xs, es, rfl, hS, hP, hl, h24, q⟩ := h
    have hx := hP.1
    refine ⟨_, pss_cons (ps_set (i := 1) scStars.nd rfl (.inl rfl) (pe_lst pa_nil))
      (pss_cons (ps_for PassesOwn.never rfl (pi_range1 (by rfl) mra (pa_cons pe_int pa_nil)) (pg_name (i := 2) scStars.nd rfl (.inr rfl))
        (pss_cons (ps_set (i := 3) scStars.nd rfl (.inl rfl) (pe_callTy call_tuple_of (by rfl) mt (by decide +kernel) (pa_cons (pe_lc (own := [("tie", 4)]) (g := gName 4) (by rfl) scStars.nd (pi_range1 (by rfl) mra (pa_cons (pe_callB call_len_seq (by rfl) mle PySem.boot_len (pa_cons (pv 0) pa_nil)) pa_nil)) (blkOk_by (own := [("tie", 4)]) (N := ["ends", "found", "place", "star", "tie"]) (sc := defScope sStars) (by decide +kernel))
            (fun _ _ _ _ _ => pg_name (i := 4) scStars.nd rfl (Or.inl rfl)) (fun _ _ _ _ _ => pts_one (pt_cmpR (op_inK (K := K) rfl) (pv 2) (pe_ix (ix_listK (K := K) rfl) (pv 0) (pv 4) (fun _ _ => rfl)) (by with_unfolding_all rfl))) (fun _ _ _ _ _ => pv 4)) pa_nil)))
        (pss_one (ps_if (pt_cmpR (op_neD hr.units) (pv 3) (pe_tup pa_nil) (nomark _)) (pss_one (ps_expr (pe_bm PySem.F.plainAttrs_list PySem.F.slot_list_append PySem.F.type_list_append mt_append (pv 1) (pa_cons (pv 3) pa_nil)))) pss_nil))))
      (pss_one (ps_ret (pe_callTy call_tuple_of (by rfl) mt (by decide +kernel) (pa_cons (pe_callB (id := "sorted") (cr_sortV (K := K) (d := 12) (B := 12) rfl (by decide)) (by rfl) mso (by decide +kernel) (pa_cons (pv 1) pa_nil)) pa_nil))))), ?_⟩
    refine ⟨by show 0 ≤ sizeLine; decide, fun D nD => ?_⟩
    have s0 := same_new (o := .lst []) nD
    have eD : (upd H D (.lst [])) D = some (.lst []) := upd_same
    generalize upd H D (.lst []) = H1 at s0 eD ⊢
    refine ⟨24, rfl, by decide, by decide, ?_⟩
    refine for_range (lo := 0) (n := 24) (fun i σ H' => ∃ (y2 y3 : Option V) (zs : List V), σ = [some (.ref p), some (.ref D), y2, y3, none] ∧ Same H H' ∧ H' D = some (.lst zs) ∧ TupsAt H' zs (starsTo es i) ∧ zs.length ≤ i) ⟨none, none, [], rfl, s0, eD, .nil, Nat.le_refl _⟩ (fun i σ H2 hi hp => ?_) (fun σ H2 hp => ?_)
    · obtain ⟨y2, y3, zs, rfl, s2, e2, T2, l2⟩ := hp
      have ei : ((0 : Int) + (i : Int)) = ((i : Nat) : Int) := by omega
      -- star = tuple([tie for tie in range(len(ends)) if place in ends[tie]])
      refine ⟨_, rfl, p, _, rfl, .inl (s2.seq hS), _, rfl, by omega, by omega, fun L nL => ?_⟩
      refine lc_range (lo := 0) (n := xs.length) (fun j H' => Same H2 H' ∧ H' L = some (.lst ((((List.range j).filter (hasP es ((i : Nat) : Int))).map fun t => ((t : Nat) : Int)).map V.int))) ⟨same_new nL, upd_same⟩ (fun j H3 hj hp => ?_) (fun H3 hp => ?_)
      · obtain ⟨sm, eL⟩ := hp
        have ge : es[j]? = some es[j] := List.getElem?_eq_getElem (by omega)
        obtain ⟨t, gt, et⟩ := hP.2 j _ ge
        generalize es[j] = e at ge et
        have hh : hasP es ((i : Nat) : Int) j = (decide (e.1 = ((i : Nat) : Int)) || decide (e.2 = ((i : Nat) : Int))) := by unfold hasP; rw [ge]
        have ej : ((0 : Int) + (j : Int)) = ((j : Nat) : Int) := by omega
        refine ⟨rfl, ?_⟩
        refine ⟨_, rfl, _, rfl, _, rfl, p, _, _, .ref t, rfl, rfl, (s2.trans sm).seq hS, by rw [ej]; exact atI_nat gt, ?_⟩
        refine ⟨t, _, rfl, .inr (SqT.of (sm _ _ (s2 _ _ et))), rfl, rfl, hasP es ((i : Nat) : Int) j, ?_, ?_⟩
        · rw [ei]
          exact congrArg V.bl ((in_pair _ _ _).trans hh.symm)
        cases hb : hasP es ((i : Nat) : Int) j with
        | true =>
          refine ite_tt ⟨_, rfl, _, eL, ?_, fun b o e => ?_, ?_⟩
          · rw [List.length_map, List.length_map]
            exact small1000 (by have := List.length_filter_le (hasP es ((i : Nat) : Int)) (List.range j); rw [List.length_range] at this; omega)
          · rw [upd_ne (ne_of_none e nL)]
            exact sm b o e
          · rw [upd_same, List.range_succ, List.filter_append, List.map_append, List.map_append]
            simp [hb]
        | false =>
          refine ite_ff ⟨sm, ?_⟩
          rw [List.range_succ, List.filter_append, List.map_append, List.map_append]
          simp [hb]
          simpa using eL
      obtain ⟨sm, eL⟩ := hp
      rw [hx] at eL
      have eL : H3 L = some (.lst ((starOf es ((i : Nat) : Int)).map V.int)) := eL
      refine ⟨L, _, rfl, .inl ⟨SqL.of eL, fun u nu => ?_⟩⟩
      have s4 := s2.trans (sm.trans (same_new (o := .tup ((starOf es ((i : Nat) : Int)).map V.int)) nu))
      have s24 := sm.trans (same_new (o := .tup ((starOf es ((i : Nat) : Int)).map V.int)) nu)
      have eu : (upd H3 u (.tup ((starOf es ((i : Nat) : Int)).map V.int))) u = some (.tup ((starOf es ((i : Nat) : Int)).map V.int)) := upd_same
      generalize upd H3 u (.tup ((starOf es ((i : Nat) : Int)).map V.int)) = H4 at s4 s24 eu ⊢
      -- star != ()
      refine ⟨_, rfl, by show 0 ≤ sizeLine; decide, fun e0 ne0 => ?_⟩
      have s5 := same_new (o := .tup []) ne0
      have ee0 : (upd H4 e0 (.tup [])) e0 = some (.tup []) := upd_same
      replace eu := s5 _ _ eu
      replace s4 := s4.trans s5
      replace s24 := s24.trans s5
      generalize upd H4 e0 (.tup []) = H5 at s4 s24 eu ee0 ⊢
      have e5 := s24 _ _ e2
      have T5 := T2.tp (.same s24)
      refine ⟨.tuple ((starOf es ((i : Nat) : Int)).map PyData.int), .tuple [], .tup (SqT.of eu) (dpAll_ints _), .tup (SqT.of ee0) .nil, shapedT_ints _, rfl, !(starOf es ((i : Nat) : Int)).isEmpty, by rw [eqv_tnil], ?_⟩
      cases hem : (starOf es ((i : Nat) : Int)).isEmpty with
      | true =>
        refine ite_ff ⟨_, _, zs, rfl, s4, e5, ?_, by omega⟩
        rw [starsTo_succ, hem, if_pos rfl, List.append_nil]
        exact T5
      | false =>
        refine ite_tt ?_
        refine ⟨_, rfl, .inl ⟨rfl, _, SqL.of e5⟩, _, rfl, D, _, _, rfl, rfl, e5, small1000 (by omega), ?_⟩
        refine ⟨_, _, zs ++ [.ref u], rfl, fun b o e => ?_, upd_same, ?_, by rw [List.length_append]; simp; omega⟩
        · rw [upd_ne (ne_of_none e nD)]
          exact s4 b o e
        · rw [starsTo_succ, hem]
          exact (T5.snoc eu).tp (.upd e5)
    · obtain ⟨y2, y3, zs, rfl, s2, e2, T2, l2⟩ := hp
      -- tuple(sorted(found))
      have items : ∀ x ∈ zs, ∃ s, TupI K H2 x s ∧ s ∈ starsTo es 24 := fun x hx2 => by
        obtain ⟨j, hj, ej⟩ := List.mem_iff_getElem.mp hx2
        have gs : (starsTo es 24)[j]? = some ((starsTo es 24)[j]'(by rw [← T2.1]; exact hj)) := List.getElem?_eq_getElem _
        obtain ⟨t, g1, g2⟩ := T2.2 j _ gs
        rw [List.getElem?_eq_getElem hj, ej] at g1
        cases g1
        exact ⟨_, ⟨t, rfl, SqT.of g2⟩, List.getElem_mem _⟩
      have bd : ∀ s ∈ starsTo es 24, 1 ≤ s.length ∧ s.length ≤ 12 ∧ TS.Bd 12 s := fun s hs => by
        obtain ⟨h1, h2, h3⟩ := star_len hs
        exact ⟨h1, by omega, fun t ht => by have := h3 t ht; exact ⟨by omega, by omega⟩⟩
      refine ⟨_, rfl, D, zs, rfl, SqL.of e2, by omega, fun x hx2 => ?_, fun ys p1 hperm hpw n1 => ?_⟩
      · obtain ⟨s, h1, h2⟩ := items x hx2
        obtain ⟨b1, b2, b3⟩ := bd s h2
        exact ⟨s, h1, b1, b2, b3⟩
      refine ⟨p1, _, rfl, .inl ⟨SqL.of upd_same, fun q1 nq1 => ?_⟩⟩
      have s6 := (same_new (o := .lst ys) n1).trans (same_new (o := .tup ys) nq1)
      obtain ⟨T3, perm⟩ := T2.perm hperm
      have hle : ∀ (i : Nat) (x y : List Int), (ys.map (decT H2))[i]? = some x → (ys.map (decT H2))[i + 1]? = some y → HT.lexLt y x = false := fun i x y ex ey => by
        obtain ⟨t1, g1, g2⟩ := T3.2 i x ex
        obtain ⟨t2, g3, g4⟩ := T3.2 (i + 1) y ey
        obtain ⟨hi1, k1⟩ := List.getElem?_eq_some_iff.mp g1
        obtain ⟨hi2, k2⟩ := List.getElem?_eq_some_iff.mp g3
        have := List.pairwise_iff_getElem.mp hpw i (i + 1) hi1 hi2 (by omega)
        rw [k1, k2] at this
        have m1 := bd x (perm.mem_iff.mp (List.mem_of_getElem? ex))
        have m2 := bd y (perm.mem_iff.mp (List.mem_of_getElem? ey))
        exact this x y ⟨t1, rfl, SqT.of g2⟩ ⟨t2, rfl, SqT.of g4⟩ m1.2.1 m2.2.1 m1.2.2 m2.2.2
      obtain ⟨hG, hL⟩ := stars_facts hl h24 perm hle
      exact q _ q1 ys _ (s2.trans s6) ((s2.trans (same_new (o := .lst ys) n1)).free nq1) upd_same (T3.tp (.same s6)) perm hG hL
end
end Sg

/-! max(t), t a tuple of whole numbers. -/
namespace Sg
open PySem PySem.Spec PyProof.Rows L2 PySem.W
section
variable {prog : Program} {w : World} {A : Around} {E : Value → Shared → Prop} {s : Shared} {l : Addr} {its : List Value} {ns : List Int} {Q : Value → Shared → Prop}
theorem max_rawT (hh : A.handled = none) (hl : s.heap.IsTuple l its.toArray) (hi : IntsAre its ns) (hne : 0 < ns.length)
    (h : ∀ h' tk M t', (∀ b o, s.heap.get? b = some o → h'.get? b = some o) → M ∈ ns → (∀ a, a ∈ ns → a ≤ M) → Q (.int M t') { s with heap := h', toks := tk }) : wpAny (model prog w) A (call (.builtin "max") [.ref l]) Q E s := by
  obtain ⟨xs, e⟩ := hi.allInts.items
  have hn : numsOf (intItems xs).toList = ns := by rw [← e]; exact hi.numsOf
  rw [nums_intItems] at hn
  subst hn
  rw [e] at hl
  have hsz : (intItems xs).size = xs.size := by simp [intItems]
  have hx : 0 < xs.size := by simpa using hne
  refine call_max_walkH (iter_tupleW (A := A.in1) hh hl fun s₂ e W st hfp hw hk => ?_)
  refine ⟨_, _, _, _, _, _, _, s.heap, _, rfl, W, st, hfp, by omega, hw, hk, fun i j vi vj s Q E _ hi hj q => CmpOf.ints_gt (numAt xs) (fun _ _ => intItems_at) i j vi vj s Q E hi hj q, fun v s' hP m => ?_⟩
  obtain ⟨h', tk, rfl, hk'⟩ := moved_old e rfl m
  rw [hsz] at hP
  obtain ⟨t, rfl⟩ := intItems_at hP
  obtain ⟨h1, h2⟩ := argBest_gt (numAt xs) (xs.size - 1)
  refine h h' tk _ t hk' ?_ fun a ha => ?_
  · rw [numAt_eq]; exact PySem.getD_mem (by rw [List.length_map, Array.length_toList]; omega)
  · obtain ⟨j, hj, rfl⟩ := mem_getD ha
    rw [List.length_map, Array.length_toList] at hj
    rw [← numAt_eq]; exact h2 j (by omega)
end
def rMaxT (K : PySem.W.Frag) : List V → Hp → VK → Prop := fun vs H Q => ∃ (a : Addr) (ns : List Int), vs = [V.ref a] ∧ (SqL K H a (ns.map V.int) ∨ SqT K H a (ns.map V.int)) ∧ 0 < ns.length ∧ ∀ m, m ∈ ns → (∀ n, n ∈ ns → n ≤ m) → Q (.int m) H
theorem cr_maxT {X : Cx} {K : PySem.W.Frag} (hK : X.K = K) (hc : X.calm = true) : CallR X (.builtin "max") (rMaxT K) := by
  subst hK
  intro pins s σ H vs us Q I r h
  obtain ⟨a, ns, rfl, hs | hs, h0, h1⟩ := h
  · exact cr_max hc pins s σ H _ us Q I r ⟨a, ns, rfl, hs, h0, h1⟩
  · obtain ⟨its, rv, hl, _⟩ := I.tuple hs
    rw [Vals.ref1 r]
    exact max_rawT (I.ok.hd hc) (show s.heap.IsTuple a its.toArray from hl) rv.ints h0 fun h' tk m t' hk m1 m2 => ⟨.int _, H, I.kept hk, ⟨_, rfl⟩, h1 m m1 m2⟩
end Sg

/-! The hand layer where it is known that no repr runs around: defs that say repr(..). -/
namespace Gx
open PySem PySem.Spec PyProof.Rows L2
/-- a def's promise, called where no guard stands -/
structure FnG (P : Program) (w : World) (K : PySem.W.Frag) (mg : Str → Option Value) (base : Heap) (CX : CXT) (k : Nat) (f : Addr) (fd : FuncData) (ps : List Str) (sp : Sp) : Prop where
  len : ∀ vs H Q E, sp vs H Q E → vs.length = ps.length
  run : ∀ (A : Around) (outer : List Env) (s : Shared) (H : Hp) (args : Args) (us : List Value) (vs : List V) (Q : VK) (E : XK), A.guards = some [] → Room k A → Env0 P w K mg base A outer s H →
    BindsTo s fd args (ps.zip us) → Vals vs us → sp vs H Q E → codeAny (model P w) A (.call (.ref f) args) (CR CX outer P w H s Q E) s
section
variable {P : Program} {w : World} {K : PySem.W.Frag} {mg : Str → Option Value} {base : Heap} {CX : CXT} {k j : Nat} {f : Addr} {fd : FuncData} {ps : List Str} {sp : Sp}
theorem FnG.of (F : FnOk P w K mg base CX k f fd ps sp) : FnG P w K mg base CX k f fd ps sp := ⟨F.len, fun A outer s H args us vs Q E _ => F.run A outer s H args us vs Q E⟩
theorem FnG.mono (F : FnG P w K mg base CX j f fd ps sp) (hj : j ≤ k) : FnG P w K mg base CX k f fd ps sp := ⟨F.len, fun A outer s H args us vs Q E hg hr => F.run A outer s H args us vs Q E hg (hr.mono hj)⟩
/-- a def by its body, where no guard stands -/
theorem fn_ofG {name qual : Str} {params : Arguments} {body : List Stmt} {scope : Scope} {dV kV doc pm cdv ct oc : Value} {an od : Option Addr} {osl : Array (Option Value)} {N : List Str}
    (lk : K.lookup f = some ⟨oc, od, .func (PySem.W.fnOf name qual params body scope dV kV doc pm an cdv ct), osl⟩) (hcd : PySem.W.codeIn K cdv qual = true) (S : FnScope N ps scope) (len : ∀ vs H Q E, sp vs H Q E → vs.length = ps.length)
    (hbody : ∀ (A : Around) (outer : List Env) (s : Shared) (H : Hp) (vs : List V) (Q : VK) (E : XK), A.guards = some [] → Room k (A.deeper (envOfC qual scope s.heap.objs.size f cdv)) → sp vs H Q E →
      ∃ t, PSs (cxOf CX P w K mg base N qual scope f cdv A outer s H E) body t ∧ t { nx := fun _ H' => Q .non H', rt := Q } (start N vs) H) :
    FnG P w K mg base CX (k + 1) f (PySem.W.fnOf name qual params body scope dV kV doc pm an cdv ct) ps sp := by
  refine ⟨len, fun A outer s H args us vs Q E hgd hr e0 hb r hsp => ?_⟩
  have el := len _ _ _ _ hsp
  have hK : K.In s.heap := e0.mod.kin.keeps fun b o e => (e0.bs b o e).1
  have hlim : s.heap.NoLimit := e0.mod.nolimit.keeps fun b o e => (e0.bs b o e).1
  have kinds : ∀ y ∈ ps.zip us, scope.names.lookup y.1 = some .local ∨ (scope.names.lookup y.1 = some .cell ∧ ((cellsFrom (s.heap.objs.size + 1) scope.names []).lookup y.1).isSome = true) := by
    rintro ⟨n, v⟩ hy
    rcases S.par n (List.of_mem_zip hy).1 with z | z
    · exact .inl z
    · exact .inr ⟨z, PySem.W.cellsFrom_some _ _ _ (.inl z)⟩
  refine codeAny_call_function hr.depth (hK _ _ lk) rfl S.co S.gen rfl (PySem.W.codeRec_of hK hcd) (hb _ _ _ _ ?_)
  refine wpAny_newFunctionEnv_cells S.kind kinds fun env he s1 x => ?_
  subst he
  refine ⟨hlim.keeps x.toInCall.keep, codeAny_func ?_⟩
  obtain ⟨t, ht, hq⟩ := hbody A outer s H vs Q E hgd (hr.deeper _) hsp
  have I0 := inv_start (CX := CX) (E := E) S hr.hd e0 el r x
  refine wpAny_mono (ht.run [] s1 (start N vs) H _ I0 hq) (fun fl s' hs => ?_) fun e s' hs => hs
  have fin : ∀ {σ' : L2.St} {H' : Hp} {v : V} {u : Value}, Inv (cxOf CX P w K mg base N qual scope f cdv A outer s H E) [] σ' H' s' → RelV v u → Q v H' → CE outer P w H s Q u s' :=
    fun J rv q => ⟨_, _, J.os, J.bare, J.base, J.hok, rv, q⟩
  cases fl with
  | next =>
    obtain ⟨σ', H', J, q⟩ := hs
    exact fin (v := V.non) (u := Value.none) J rfl q
  | ret u =>
    obtain ⟨v, σ', H', J, rv, q⟩ := hs
    exact fin J rv q
  | brk =>
    obtain ⟨_, _, _, q⟩ := hs
    exact q.elim
  | cont =>
    obtain ⟨_, _, _, q⟩ := hs
    exact q.elim
/-- as Fun.ok -/
theorem okG {x qual : Str} {st : Stmt} {N : List Str} (F : Fun K x qual st f fd) (S : FnScope N ps (defScope st)) (len : ∀ vs H Q E, sp vs H Q E → vs.length = ps.length)
    (hbody : ∀ (cdv : Value) (A : Around) (outer : List Env) (s : Shared) (H : Hp) (vs : List V) (Q : VK) (E : XK), A.guards = some [] → Room k (A.deeper (envOfC qual (defScope st) s.heap.objs.size f cdv)) → sp vs H Q E →
      ∃ t, PSs (cxOf CX0 P w K mg base N qual (defScope st) f cdv A outer s H E).nox (defBody st) t ∧ t { nx := fun _ H' => Q .non H', rt := Q } (start N vs) H) : FnG P w K mg base CX0 (k + 1) f fd ps sp := by
  obtain ⟨oc, od, kV, doc, pm, an, cdv, ct, osl, rfl, lk, hcd⟩ := F.ex
  refine fn_ofG lk hcd S len fun A outer s H vs Q E hg hr hsp => ?_
  obtain ⟨t, ht, q⟩ := hbody cdv A outer s H vs Q E hg hr hsp
  exact ⟨t, ht.nox, q⟩
end
section
variable {X : Cx} {CX : CXT} {k : Nat} {f : Addr} {fd : FuncData} {ps : List Str} {sp : Sp} {dvs : List V} {ds : List Value} {E : XK} {x : Str} {p pos : Pos} {e : Expr} {es : List Expr} {t : TA}
/-- f(..), where no guard stands -/
theorem pe_callG (hgd : X.A.guards = some []) (F : FnG X.prog X.w X.K X.mg X.base CX k f fd ps sp) (hr : Room k X.A) (hg : Gl X x) (hm : X.mg x = some (.ref f)) (hk : PySem.W.keepIn X.K (.ref f) = true) (hb : Binds X.K fd ps ds) (hd : Vals dvs ds) (hx : Passes CX X E)
    (ha : PA X (e :: es) t) (hdb : (x == ("__debug__" : Str)) = false := by decide) (he : starEach (e :: es) X.env = (false, eval e X.env) :: starEach es X.env := by rfl) (hpl : (backTo pos (starEach es X.env)).any (·.1) = false := by rfl) :
    PE X (.Call (.Name x p) (e :: es) [] pos) (tCall sp dvs E t) := by
  refine ⟨fun pins s σ H Q I h => ?_⟩
  refine wpAny_Call_Name_kw (ld_glob I hg hm ?_ hdb)
  refine PySem.W.callWith_K (h₀ := X.base) I.ok.mod.kin hk (thn (ha.run pos pins s σ H _ I h) fun us s1 ⟨vs, H1, I1, r1, q1⟩ => ⟨I1.kIn, ?_⟩) he hpl
  have r2 : Vals (vs ++ dvs) (us ++ ds) := r1.append hd
  have hl : (us ++ ds).length = ps.length := by rw [← r2.length]; exact F.len _ _ _ _ q1
  refine wpAny_call (codeAny_mono (F.run X.A X.stack s1 H1 ⟨us, []⟩ (us ++ ds) (vs ++ dvs) Q E hgd hr I1.env0 (hb s1 us I1.kIn hl) r2 q1) fun r s' hq => ?_)
  cases r with
  | error e => exact hx pins σ H1 s1 e s' I1 hq
  | ok fl =>
    cases fl with
    | ret u => exact I1.after hq
    | next => exact hq.elim
    | brk => exact hq.elim
    | cont => exact hq.elim
/-- repr of data that can be read as d -/
def rReprD (P : Program) (w : World) (K : PySem.W.Frag) : List V → Hp → VK → Prop := fun xs H Q => ∃ (x : V) (d : PyData), xs = [x] ∧ (∃ a, x = .ref a) ∧ Dp K H x d ∧ d.showable = true ∧ d.hasDict = false ∧ d.depth ≤ 60 ∧ d.shown.length ≤ sizeLine ∧ Q (.str d.shown) H
theorem call_reprD (hgd : X.A.guards = some []) (hu : X.A.units + 64 < cLine) : CallR X (.builtin "repr") (rReprD X.prog X.w X.K) := by
  intro pins s σ H xs us Q I r h
  obtain ⟨x, d, rfl, ⟨a, rfl⟩, hd, h1, h2, h3, h4, q⟩ := h
  obtain ⟨u, rfl, ru⟩ := vals1 r
  obtain ⟨as, R⟩ := Dp.reads I d _ u hd ru
  obtain rfl : u = Value.ref a := ru
  refine repr_of_reads' R h1 (fun z => by rw [h2] at z; cases z) hgd (by omega) (fun _ _ z => z) (fun h' u tk kk => ?_) h4
  exact ⟨.str d.shown, H, I.kept (t' := tk) kk, ⟨u, rfl⟩, q⟩
end
/-! ### the end of a law's row -/
section
variable {P : Program} {w : World} {K : PySem.W.Frag} {mg mb : Str → Option Value} {CX : CXT} {k : Nat} {fa a : Addr} {fd : FuncData} {x : Str} {sp : Sp} {s₁ : Shared} {vs : List Value} {ns : List Int}
/-- from an abstract heap in which the script alone may stand -/
theorem law_core (KX : K.In s₁.heap) (hns : s₁.heap.Ns mainGlobals mg) (hb : s₁.heap.Ns builtinsNs mb) (hbb : ∀ x : Str, x ≠ "__name__" → mb x = bootBuiltins x) (hlim : s₁.heap.NoLimit) (hg : s₁.gens = #[])
    (ha : s₁.heap.get? a = some { cls := .type "list", data := .seq vs.toArray }) (hr : Room k callerA)
    (F : ∀ base : Heap, K.In base → base.Ns mainGlobals mg → FnG P w K mg base CX k fa fd [x] sp) (hbind : ∀ (s : Shared) (u : Value), BindsTo s fd ⟨[u], []⟩ [(x, u)])
    (hCX : ∀ H e s', CX [] H s₁ (fun _ _ _ => False) e s' → False) {H : Hp} (hO : Only H) (hsp : sp [.ref a] H (fun v _ => v = .bl true) fun _ _ _ => False) (hok : HOk P w H s₁.heap) (hA : ∀ b, H b ≠ none → b = a) (hK : H a ≠ none → K.lookup a = none) :
    codeAny (model P w) callerA (.call (.ref fa) ⟨[.ref a], []⟩) (fun r s' => r = .ok (.ret (.bool true)) ∧ OldK s₁.heap s'.heap ∧ s'.os = s₁.os ∧ AllBare s'.gens) s₁ := by
  have out : ∀ {b : Addr}, b ≠ a → H b = none := fun {b} n => by
    cases q : H b with
    | none => rfl
    | some u => exact absurd (hA b (by rw [q]; simp)) n
  have dict_out : ∀ {b : Addr} {o : Obj} {es : Array DictEntry} {ep : Nat}, s₁.heap.get? b = some o → o.data = .dict es ep → H b = none := fun {b o es ep} z d => out fun y => by
    rw [y, ha] at z
    cases z
    cases d
  have nsB : ∀ {b : Addr} {m : Str → Option Value}, s₁.heap.Ns b m → (hidT s₁.heap H).Ns b m := fun ⟨o, es, ep, z, d, r⟩ => ⟨o, es, ep, hidT_get z (dict_out z d), d, r⟩
  have kB : K.In (hidT s₁.heap H) := fun b o z => hidT_get (KX b o z) (by
    cases q : H b with
    | none => rfl
    | some u =>
      have y := hA b (by rw [q]; simp)
      rw [y] at q z
      rw [hK (by rw [q]; simp)] at z
      cases z)
  obtain ⟨mc, c1, c2⟩ := hlim
  have e0 : Env0 P w K mg (hidT s₁.heap H) callerA [] s₁ H :=
    ⟨rfl, ⟨kB, nsB hns, ⟨mb, nsB hb, hbb⟩, ⟨mc, nsB c1, c2⟩⟩, fun b o z => of_hidT z, Nat.le_of_eq (hidT_size _ _), trivial, fun b z => absurd (show b ∈ ([] : List Addr) from z) (by simp), hok, .of_eq hg⟩
  refine codeAny_mono ((F _ kB (nsB hns)).run callerA [] s₁ H ⟨[.ref a], []⟩ [.ref a] [.ref a] _ _ rfl hr e0 (hbind s₁ (.ref a)) (.cons rfl .nil) hsp) fun r s' z => ?_
  rcases r with e | fl
  · exact (hCX H e s' z).elim
  · cases fl with
    | ret u =>
      obtain ⟨v, H', os, bare, un, hok', rv, q⟩ := z
      have q : v = .bl true := q
      subst q
      obtain rfl : u = Value.bool true := rv
      refine ⟨rfl, OldK.of_keep fun b o e => ?_, os, bare⟩
      rcases hO b with y | ⟨ob, xs, y⟩
      · exact un.keep b o e y (fun z => absurd (show b ∈ ([] : List Addr) from z) (by simp)) (by simp)
      · obtain ⟨e1, _⟩ := hok b _ y
        obtain ⟨e2, _⟩ := hok' b _ (un.frzs b ob _ y)
        rw [e] at e1
        cases e1
        exact e2
    | next => exact z.elim
    | brk => exact z.elim
    | cont => exact z.elim
theorem law_callG (KX : K.In s₁.heap) (hns : s₁.heap.Ns mainGlobals mg) (hb : s₁.heap.Ns builtinsNs mb) (hbb : ∀ x : Str, x ≠ "__name__" → mb x = bootBuiltins x) (hlim : s₁.heap.NoLimit) (hg : s₁.gens = #[])
    (ha : s₁.heap.get? a = some { cls := .type "list", data := .seq vs.toArray }) (hi : IntsAre vs ns) (hl : ns.length ≤ sizeLine) (hr : Room k callerA)
    (F : ∀ base : Heap, K.In base → base.Ns mainGlobals mg → FnG P w K mg base CX k fa fd [x] sp) (hbind : ∀ (s : Shared) (u : Value), BindsTo s fd ⟨[u], []⟩ [(x, u)])
    (hsp : ∀ H : Hp, Only H → SqL K H a (ns.map V.int) → sp [.ref a] H (fun v _ => v = .bl true) fun _ _ _ => False) (hCX : ∀ H e s', CX [] H s₁ (fun _ _ _ => False) e s' → False) :
    codeAny (model P w) callerA (.call (.ref fa) ⟨[.ref a], []⟩) (fun r s' => r = .ok (.ret (.bool true)) ∧ OldK s₁.heap s'.heap ∧ s'.os = s₁.os ∧ AllBare s'.gens) s₁ := by
  have rv := vals_ints hi
  cases hk : K.lookup a with
  | some o =>
    have e := KX a o hk
    rw [ha] at e
    cases e
    exact law_core KX hns hb hbb hlim hg ha hr F hbind hCX (H := fun _ => none) (fun _ => .inl rfl) (hsp _ (fun _ => .inl rfl) (.inr ⟨_, vs.toArray, _, hk, rfl, rfl, rfl, by rw [List.size_toArray, hi.length]; exact hl, by simpa using rv⟩))
      (fun b u z => nomatch z) (fun b z => absurd rfl z) fun z => absurd rfl z
  | none =>
    let H : Hp := fun b => if b = a then some (.frz { cls := .type "list", data := .seq vs.toArray } (.lst (ns.map V.int))) else none
    have H1 : H a = some (.frz { cls := .type "list", data := .seq vs.toArray } (.lst (ns.map V.int))) := if_pos rfl
    have H2 : ∀ {b}, b ≠ a → H b = none := fun n => if_neg n
    have hO : Only H := fun b => by
      by_cases e : b = a
      · rw [e]; exact .inr ⟨_, _, H1⟩
      · exact .inl (H2 e)
    refine law_core KX hns hb hbb hlim hg ha hr F hbind hCX hO (hsp _ hO (.inl (.inr ⟨_, H1⟩))) (fun b u z => ?_) (fun b z => ?_) fun _ => hk
    · by_cases e : b = a
      · subst e
        rw [H1] at z
        cases z
        exact ⟨ha, by rw [List.length_map]; exact hl, vs, _, rv, ha⟩
      · rw [H2 e] at z
        cases z
    · by_cases e : b = a
      · exact e
      · exact absurd (H2 e) z
end
/-- the goal that k_head leaves -/
theorem walk_ofG {l : PySem.W.OpenLaw} {n k : Nat} {q : Program} {loose : List Str} {XP : (Str → Option Value) → Heap → Prop} {YP : World → Heap → Prop} {d : DefRec} {K : Params → PySem.W.Frag} {sp : PySem.W.Frag → Sp} {x : Str}
    (hn : l.most = some n) (hn2 : n ≤ sizeLine) (hdf : d.params.defaults = []) (hr : Room k callerA) (hY : ∀ (w : World) (h : Heap), YP w h → (K w.params).In h)
    (F : ∀ (w : World) (mg : Str → Option Value) (fa : Addr) (h : Heap), (K w.params).In h → h.Ns mainGlobals mg → mg d.name = some (.ref fa) →
      ∃ fd : FuncData, (∀ (s : Shared) (u : Value), BindsTo s fd ⟨[u], []⟩ [(x, u)]) ∧ ∀ base : Heap, (K w.params).In base → base.Ns mainGlobals mg → FnG l.prog w (K w.params) mg base CX0 k fa fd [x] (sp (K w.params)))
    (hsp : ∀ (K : PySem.W.Frag) (H : Hp) (a : Addr) (ns : List Int), ns.length ≤ n → Only H → SqL K H a (ns.map V.int) → sp K [.ref a] H (fun v _ => v = .bl true) fun _ _ _ => False) :
    PySem.W.WalkO q loose XP YP l.row.toRowW d [] (fun f vs => PySem.call f vs) := by
  refine Att.attach_call hn hdf fun w s₀ s₁ mg mb fa o pm cd doc a vs ns G Y ho hd hcd hmg hobj hints hlen hg => ?_
  have KX := hY w _ Y
  obtain ⟨fd, hb, hF⟩ := F w mg fa _ KX G.T.g hmg
  exact law_callG KX G.T.g G.T.b G.T.builtins G.T.nolimit hg hobj hints (Nat.le_trans hlen hn2) hr hF hb (fun H hO hS => hsp (K w.params) H a ns hlen hO hS) fun _ _ _ z => z
end Gx

/-! Exceptions of the program's own whose __init__ says super().__init__(text) and keeps one field, or none. -/
namespace Sx
open PySem PySem.W PySem.Calls PyProof.Rows Builtin Builtin.ObjectAttr

section
variable {prog : Program} {w : World} {A : Around} {E : Value → Shared → Prop} {R : Result → Shared → Prop} {h : Heap} {g : Array GenState} {d : Drawn} {t : Nat} {os : OsState} {K : Frag} {C e t0 : Addr} {B newId initId : String} {bmB : List Value}

/-- the first store on a made exception -/
theorem set_first {f : Str} {v : Value} {Q : Unit → Shared → Prop} (SF : StoreFacts B bmB "object.__setattr__" "object") (X : K.In h) (he : h.get? e = some (excObj C t0 none .none))
    (sa : findIn K (.ref C) "__setattr__" = some (some (.builtin "object.__setattr__"))) (ov : excOver K C bmB = true) (ht : takerIn K C f = some none) (hh : hasDictIn K C = true)
    (hq : ∀ h' tk dx, (∀ b o, b ≠ e → h.get? b = some o → h'.get? b = some o) → h.objs.size ≤ dx → dx ≠ e → h'.get? e = some (excObj C t0 (some dx) .none) → h'.Ns1 dx (fun y => if y = f then some v else none) → Q () ⟨h', g, d, tk, os⟩) :
    wpAny (model prog w) A (setAttr (.ref e) f v) Q E ⟨h, g, d, t, os⟩ := by
  have I : InstAt h e (excObj C t0 none .none) C none := ⟨he, rfl, rfl, trivial⟩
  refine set_plain X I sa (osa_openX (s := ⟨h, g, d, t + 1, os⟩) SF X I ov ht fun b => ?_)
  obtain ⟨cd, hc, hd'⟩ := any_some hh
  have hcls : Looks (model prog w) h (classData C) cd := looks_clsIn X hc
  have hxs : e ≠ h.objs.size := Nat.ne_of_lt (Heap.lt_size he)
  obtain ⟨nm, bs, mro, ns, qn, hdd, sn, sb, ab, col, del⟩ := cd
  dsimp only at hd'
  subst hd'
  dsimp only
  unfold storeInOwnDict ownDictForStores
  repeat (first | with_reducible refine HandSPX.store_in_new ?_ ?_ | with_reducible refine wpAny_loadPart_at he ?_ | with_reducible refine hcls.at ?_ | wp_step)
  · exact ⟨_, #[], _, (Heap.get?_update_ne _ _ _ _ hxs.symm).trans (Heap.get?_push_at rfl rfl), rfl, fun e he => absurd he (by simp), fun _ => rfl⟩
  · intro h' tk' hn' hs
    have hx₁ : (h.push { cls := .type "dict", data := .dict #[] }).get? e = some (excObj C t0 none .none) := Heap.get?_push_of_some _ he
    refine hq h' tk' h.objs.size (fun b o hb ho => ?_) (Nat.le_refl _) hxs.symm ?_ hn'
    · exact (hs.2 b (Nat.ne_of_lt (Heap.lt_size ho))).trans ((Heap.get?_update_ne _ _ _ _ hb).trans (Heap.get?_push_of_some _ ho))
    · exact (hs.2 e hxs).trans (Heap.get?_update_self _ hx₁ rfl)

/-- the wrapper called: the args are laid anew -/
theorem bound_init {u : Addr} {rest : List Value} {Q : Value → Shared → Prop} (FB : ExcBaseFacts B newId initId bmB) (X : K.In h) (q : excInitIn K C bmB newId = true) (hu : h.get? u = some (kxs_mw initId e)) (he : h.get? e = some (excObj C t0 none .none)) (hz : rest.length ≤ sizeLine)
    (hq : ∀ h' t1, (∀ b o, b ≠ e → h.get? b = some o → h'.get? b = some o) → h'.get? e = some (excObj C t1 none .none) → Q .none ⟨h', g, d, t, os⟩) :
    wpAny (model prog w) A (call (.ref u) rest) Q E ⟨h, g, d, t, os⟩ := by
  obtain ⟨nm, N', qn, bs, bm, hdct, sn, sub, ab, col, dd, k0, k1, k2, k3, k5, hC, hT⟩ := excInit_of X q
  refine wpAny_call (codeAny_of_tree ?_)
  show wpAny _ A.in1 (callAny (.ref u) ⟨rest, []⟩) _ _ _
  simp only [callAny]
  refine wpAny_bind (wpAny_load hu ?_)
  have m1 : (Value.type "method-wrapper" == Value.type "method" || Value.type "method-wrapper" == Value.type "builtin_function_or_method" || Value.type "method-wrapper" == Value.type "method-wrapper") = true := by decide
  simp only [kxs_mw, m1, if_true]
  refine KFB.if_so (by decide) ?_
  refine wpAny_bind (check_bound_init FB.toExcCallFacts hC he rfl ?_)
  refine wpAny_bind (wpAny_pure (wpAny_pure ?_))
  refine ⟨plainId_quiet FB.init.plain _, codeAny_builtin FB.initEntry ?_⟩
  exact exc_init_tree (cls := .ref C) (t0 := t0) (dv := none) (c2 := .none) (c3 := .none) (b4 := .bool false) he hz fun h' k' e' _ => hq h' _ k' e'

/-- what the written part says of such a class: D is C; its __init__'s def at fI, the class's cell at cc, the code object at cda -/
structure SupC (K : Frag) (prog : Program) (C fI cc cda : Addr) (B newId initId : String) (bmB : List Value) (qual : Str) (ar : Str) (scope : Scope) (params : Arguments) : Prop where
  FB : ExcBaseFacts B newId initId bmB
  KF : KxsFacts B initId
  SF : StoreFacts B bmB "object.__setattr__" "object"
  q : excInitIn K C bmB newId = true
  ov : excOver K C bmB = true
  hh : hasDictIn K C = true
  sa : findIn K (.ref C) "__setattr__" = some (some (.builtin "object.__setattr__"))
  iC : findIn K (.ref C) "__init__" = some (some (.ref fI))
  tI : typeIn K (.ref fI) = some (.type "function")
  cell : ∃ cl cld csl, K.lookup cc = some ⟨cl, cld, .cell (some (.ref C)), csl⟩
  code : ∃ ccl cdd vs ccs file tf, K.lookup cda = some ⟨ccl, cdd, .fields vs, ccs⟩ ∧ vs[2]? = some (.str file tf) ∧ ((prog.main.file : Str) == file) = true
  cdI : codeIn K (.ref cda) qual = true
  cls : ∃ cd, clsIn K C = some cd
  self : mroIn K C (.ref C) = some true
  sup : ks_superIn K C C "__init__" = some (some (.builtin initId))
  sB : subIn K (.ref C) (.type B) = some true
  noOp : nsIn K cStatics "thirdparty.any" = some none
  top : (prog.main.scope.names.lookup ("super" : Str)).isSome = false
  kind : scope.kind = .function
  co : scope.isCoroutine = false
  gen : scope.isGenerator = false
  nS : scope.names.lookup ("super" : Str) = some .globalImplicit
  nC : scope.names.lookup ("__class__" : Str) = some .free
  nA : scope.names.lookup ar = some .local
  noCell : ∀ x ∈ scope.names, x.2 ≠ .cell
  head : ((params.posonlyargs ++ params.args).head?.map (·.arg)) = some ar

/-- super().__init__("text") as the first statement of the def that runs -/
theorem super_first {body : List Stmt} {fI cc cda : Addr} {qual ar : Str} {scope : Scope} {params : Arguments} {mg mb : Str → Option Value} {oc kV doc pm ct dV : Value} {an od : Option Addr} {osl : Array (Option Value)} {name : Str} {p0 p1 p2 p3 p4 p5 : Pos} {msg : Str} {k4 : Nat}
    {L : Addr} {m : Str → Option Value} {Q : Flow → Shared → Prop} (T : SupC K prog C fI cc cda B newId initId bmB qual ar scope params)
    (lk : K.lookup fI = some ⟨oc, od, .func (ksFn name qual params body scope dV kV doc pm an (.ref cda) ct cc), osl⟩)
    (X : K.In h) (hg : h.Ns mainGlobals mg) (hms : mg "super" = none) (hb : h.Ns builtinsNs mb) (hbs : mb "super" = some (.type "super"))
    (hn : h.Ns L m) (hv : m ar = some (.ref e)) (he : h.get? e = some (excObj C t0 none .none))
    (hq : ∀ h' tk t1, (∀ b o, b ≠ e → h.get? b = some o → h'.get? b = some o) → h'.get? e = some (excObj C t1 none .none) → Q .next ⟨h', g, d, tk, os⟩)
    (hev : ∃ pl : Sem Bool, PySem.eval (.Call (.Attribute (.Call (.Name "super" p0) [] [] p1) "__init__" p2) [.Constant (.str msg) k4 p3] [] p4) (ksEnv qual scope L fI (.ref cda) cc) = (do
      let ov ← attributeBase (.Call (.Name "super" p0) [] [] p1) "__init__" (ksEnv qual scope L fI (.ref cda) cc) (PySem.eval (.Call (.Name "super" p0) [] [] p1) (ksEnv qual scope L fI (.ref cda) cc))
      standAt p2.atName
      let (f, first) ← holding [ov] (getMethod ov "__init__" pl)
      callWith p4 f first (backTo p4 (starEach [.Constant (.str msg) k4 p3] (ksEnv qual scope L fI (.ref cda) cc))) [])) :
    _root_.PySem.wpAt (model prog w) A (.func body (ksEnv qual scope L fI (.ref cda) cc)) (exec (.Expr (.Call (.Attribute (.Call (.Name "super" p0) [] [] p1) "__init__" p2) [.Constant (.str msg) k4 p3] [] p4) p5) (ksEnv qual scope L fI (.ref cda) cc)) Q E ⟨h, g, d, t, os⟩ := by
  obtain ⟨cl, cld, csl, hcell⟩ := T.cell
  obtain ⟨ccl, cdd, vs, ccs, file, tf, hcode, hvs, hfile⟩ := T.code
  obtain ⟨cd, hcd⟩ := T.cls
  obtain ⟨arg, harg, har⟩ := Option.map_eq_some_iff.mp T.head
  obtain ⟨oD, hD1, hD2⟩ : ∃ oD, h.get? C = some oD ∧ oD.data = .cls cd := by
    unfold clsIn at hcd
    split at hcd
    · rename_i ho
      cases hcd
      exact ⟨_, X _ _ ho, rfl⟩
    · cases hcd
  have I0 : InstAt h e (excObj C t0 none .none) C none := ⟨he, rfl, rfl, trivial⟩
  have neC : e ≠ C := fun z => by
    rw [z, hD1] at he
    cases he
    cases hD2
  have hi : interactive (ksEnv qual scope L fI (.ref cda) cc) = false := by
    show (scope.kind == .module && _) = false
    rw [T.kind]; rfl
  obtain ⟨pl, hev⟩ := hev
  refine ks_wpAt_Expr_any ?_ hi rfl
  refine ks_wpAt_MethodCall (pl := pl) ?_ hev
  refine ks_wpAt_super_base (env := ksEnv qual scope L fI (.ref cda) cc) T.nS T.nC rfl rfl (X _ _ lk) rfl harg rfl (X _ _ hcode) rfl hvs hfile T.top ?_
  refine ks_loadName_global T.kind T.nS (loadGlobal_builtin (env := ksEnv qual scope L fI (.ref cda) cc) hg hms hb hbs ⟨rfl, ?_⟩)
  refine wpAny_loadName_free T.kind T.nC rfl ⟨_, X _ _ hcell, rfl⟩ ?_
  rw [har]
  refine wpAny_loadName_local T.kind T.nA hn hv ?_
  refine ks_wpAny_isType_cls hD1 hD2 ⟨rfl, ?_⟩
  refine ks_wpAny_call_super hD1 hD2 he rfl (fun c z => by cases z) (looks_mroIn X T.self) (fun h2 e2 k2 => ?_)
  have X2 : K.In h2 := X.keeps k2
  have hsup := T.sup
  unfold ks_superIn at hsup
  rw [hcd] at hsup
  have he2 := k2 _ _ he
  have I2 : InstAt h2 e (excObj C t0 none .none) C none := ⟨he2, rfl, rfl, trivial⟩
  have hI2 : Looks (model prog w) h2 (isInstance (.ref e) (.type B)) true := I2.type.andThen (looks_subIn X2 T.sB)
  refine kxs_getMethod T.KF e2 (looks_opaque X2 T.noOp) (l₀ := cd.mro) (fun A Q E s k z => wpAny_bind ((looks_clsIn X2 hcd) A _ E s k (wpAny_pure z))) rfl X2 hsup hI2 neC (by decide) ?_
  have hu : (h2.push (kxs_mw initId e)).get? h2.objs.size = some (kxs_mw initId e) := Heap.get?_push_size _ rfl
  have k3 : ∀ b o, h2.get? b = some o → (h2.push (kxs_mw initId e)).get? b = some o := fun b o z => Heap.get?_push_of_some _ z
  show wpAny _ _ (callWith p4 (.ref h2.objs.size) [] (backTo p4 (starEach [.Constant (.str msg) k4 p3] _)) []) _ _ _
  refine kxs_callWith (i := initId) (x := e) rfl ?_
  refine evalArgs_plain (rest := []) (Calls.spliced_cons (@Calls.Constant_str _ _ _ _ _ msg k4 p3 _ (Calls.spliced_nil ⟨hu, ?_⟩)))
  refine bound_init T.FB (X2.keeps k3) T.q hu (k3 _ _ he2) (by show 1 ≤ sizeLine; decide) fun h' t1 k' e' => ?_
  exact hq h' _ t1 (fun b o nb z => k' b o nb (k3 _ _ (k2 _ _ z))) e'

/-- the first name's value -/
theorem lookup_two {a b : Str} {u v : Value} (n : ¬ a = b) : ([(a, u), (b, v)] : List (Str × Value)).reverse.lookup a = some u ∧ ([(a, u), (b, v)] : List (Str × Value)).reverse.lookup b = some v := by
  have h1 : (a == b) = false := by simpa using n
  constructor
  · simp [List.lookup, h1]
  · simp [List.lookup]

/-- __init__ of such a class with one field -/
theorem init_field {fI cc cda : Addr} {qual : Str} {scope : Scope} {params : Arguments} {mg mb : Str → Option Value} {oc kV doc pm ct dV : Value} {an od : Option Addr} {osl : Array (Option Value)} {name f p : Str} {p0 p1 p2 p3 p4 p5 p6 p7 p8 p9 : Pos} {msg : Str} {k4 : Nat}
    {v : Value} {args : Args} (T : SupC K prog C fI cc cda B newId initId bmB qual "self" scope params) (np : ¬ ("self" : Str) = p) (hpl : scope.names.lookup p = some .local) (hf : takerIn K C f = some none)
    (lk : K.lookup fI = some ⟨oc, od, .func (ksFn name qual params [.Expr (.Call (.Attribute (.Call (.Name "super" p0) [] [] p1) "__init__" p2) [.Constant (.str msg) k4 p3] [] p4) p5, .Assign [.Attribute (.Name "self" p6) f p7] (.Name p p8) p9] scope dV kV doc pm an (.ref cda) ct cc), osl⟩)
    {h0 : Heap} (X0 : K.In h0) (k0 : ∀ b o, h0.get? b = some o → h.get? b = some o) (h0e : h0.get? e = none) (hl : h.NoLimit) (hg : h.Ns mainGlobals mg) (hms : mg "super" = none) (hb : h.Ns builtinsNs mb) (hbs : mb "super" = some (.type "super"))
    (he : h.get? e = some (excObj C t0 none .none)) (hr : A.depth < recursionLimit)
    (hbind : BindsTo ⟨h, g, d, t, os⟩ (ksFn name qual params [.Expr (.Call (.Attribute (.Call (.Name "super" p0) [] [] p1) "__init__" p2) [.Constant (.str msg) k4 p3] [] p4) p5, .Assign [.Attribute (.Name "self" p6) f p7] (.Name p p8) p9] scope dV kV doc pm an (.ref cda) ct cc) args [("self", .ref e), (p, v)])
    (hev : ∀ L, ∃ pl : Sem Bool, PySem.eval (.Call (.Attribute (.Call (.Name "super" p0) [] [] p1) "__init__" p2) [.Constant (.str msg) k4 p3] [] p4) (ksEnv qual scope L fI (.ref cda) cc) = (do
      let ov ← attributeBase (.Call (.Name "super" p0) [] [] p1) "__init__" (ksEnv qual scope L fI (.ref cda) cc) (PySem.eval (.Call (.Name "super" p0) [] [] p1) (ksEnv qual scope L fI (.ref cda) cc))
      standAt p2.atName
      let (f, first) ← holding [ov] (getMethod ov "__init__" pl)
      callWith p4 f first (backTo p4 (starEach [.Constant (.str msg) k4 p3] (ksEnv qual scope L fI (.ref cda) cc))) []))
    (hdp : (p == ("__debug__" : Str)) = false) (hcp : (p == ("__classdict__" : Str)) = false)
    (hq : ∀ h' tk dx t1, (∀ b o, b ≠ e → h.get? b = some o → h'.get? b = some o) → h.get? dx = none → dx ≠ e → h'.get? e = some (excObj C t1 (some dx) .none) → h'.Ns1 dx (fun y => if y = f then some v else none) → R (.ok (.ret .none)) ⟨h', g, d, tk, os⟩) :
    codeAny (model prog w) A (.call (.ref fI) args) R ⟨h, g, d, t, os⟩ := by
  have X : K.In h := X0.keeps k0
  refine ks_codeAny_call_defAt hr (X _ _ lk) rfl hl (codeRec_of X T.cdI) rfl hbind T.noCell (fun y hy => ?_) (fun h1 hn k1 => ?_) T.co T.gen T.kind
  · rcases List.mem_cons.mp hy with rfl | hy
    · exact T.nA
    · rw [List.mem_singleton.mp hy]; exact hpl
  refine ks_wpAt_execs_cons ?_
  have nL : h.objs.size ≠ e := Nat.ne_of_gt (Heap.lt_size he)
  refine super_first T lk (X.keeps k1) (hg.keeps k1) hms (hb.keeps k1) hbs hn (lookup_two np).1 (k1 _ _ he) (fun h2 tk t1 k2 e2 => ?_) (hev _)
  have k12 : ∀ b o, b ≠ e → h.get? b = some o → h2.get? b = some o := fun b o nb z => k2 b o nb (k1 b o z)
  have X2 : K.In h2 := fun b o z => k12 b o (fun y => by
    have z2 := X0 b o z
    rw [y, h0e] at z2
    cases z2) (X b o z)
  have hn2 : h2.Ns h.objs.size (fun x => ([("self", Value.ref e), (p, v)] : List (Str × Value)).reverse.lookup x) := by
    obtain ⟨o, es, ep, ho, hr⟩ := hn
    exact ⟨o, es, ep, k2 _ _ nL ho, hr⟩
  dsimp only
  refine ks_wpAt_execs_cons ?_
  refine ks_wpAt_Assign_Attr (wpAt_of_wpAny ?_) rfl
  refine wpAny_Name (wpAny_loadName_local T.kind hpl hn2 (lookup_two np).2 ?_) hdp
  refine wpAny_Name (wpAny_loadName_local T.kind T.nA hn2 (lookup_two np).1 ?_) (by decide)
  refine set_first T.SF X2 e2 T.sa T.ov hf T.hh fun h3 tk3 dx k3 d1 d2 e3 n3 => ?_
  refine wpAt_of_wpAny (wpAny_pure ?_)
  refine hq h3 tk3 dx t1 (fun b o nb z => k3 b o nb (k12 b o nb z)) ?_ d2 e3 n3
  cases z : h.get? dx with
  | none => rfl
  | some o => exact absurd (Nat.lt_of_lt_of_le (Heap.lt_size (k12 _ _ d2 z)) d1) (Nat.lt_irrefl _)

/-- __init__ of such a class without a field -/
theorem init_none {fI cc cda : Addr} {qual : Str} {scope : Scope} {params : Arguments} {mg mb : Str → Option Value} {oc kV doc pm ct dV : Value} {an od : Option Addr} {osl : Array (Option Value)} {name : Str} {p0 p1 p2 p3 p4 p5 : Pos} {msg : Str} {k4 : Nat}
    {args : Args} (T : SupC K prog C fI cc cda B newId initId bmB qual "self" scope params)
    (lk : K.lookup fI = some ⟨oc, od, .func (ksFn name qual params [.Expr (.Call (.Attribute (.Call (.Name "super" p0) [] [] p1) "__init__" p2) [.Constant (.str msg) k4 p3] [] p4) p5] scope dV kV doc pm an (.ref cda) ct cc), osl⟩)
    {h0 : Heap} (X0 : K.In h0) (k0 : ∀ b o, h0.get? b = some o → h.get? b = some o) (hl : h.NoLimit) (hg : h.Ns mainGlobals mg) (hms : mg "super" = none) (hb : h.Ns builtinsNs mb) (hbs : mb "super" = some (.type "super"))
    (he : h.get? e = some (excObj C t0 none .none)) (hr : A.depth < recursionLimit)
    (hbind : BindsTo ⟨h, g, d, t, os⟩ (ksFn name qual params [.Expr (.Call (.Attribute (.Call (.Name "super" p0) [] [] p1) "__init__" p2) [.Constant (.str msg) k4 p3] [] p4) p5] scope dV kV doc pm an (.ref cda) ct cc) args [("self", .ref e)])
    (hev : ∀ L, ∃ pl : Sem Bool, PySem.eval (.Call (.Attribute (.Call (.Name "super" p0) [] [] p1) "__init__" p2) [.Constant (.str msg) k4 p3] [] p4) (ksEnv qual scope L fI (.ref cda) cc) = (do
      let ov ← attributeBase (.Call (.Name "super" p0) [] [] p1) "__init__" (ksEnv qual scope L fI (.ref cda) cc) (PySem.eval (.Call (.Name "super" p0) [] [] p1) (ksEnv qual scope L fI (.ref cda) cc))
      standAt p2.atName
      let (f, first) ← holding [ov] (getMethod ov "__init__" pl)
      callWith p4 f first (backTo p4 (starEach [.Constant (.str msg) k4 p3] (ksEnv qual scope L fI (.ref cda) cc))) []))
    (hq : ∀ h' tk t1, (∀ b o, b ≠ e → h.get? b = some o → h'.get? b = some o) → h'.get? e = some (excObj C t1 none .none) → R (.ok (.ret .none)) ⟨h', g, d, tk, os⟩) :
    codeAny (model prog w) A (.call (.ref fI) args) R ⟨h, g, d, t, os⟩ := by
  have X : K.In h := X0.keeps k0
  refine ks_codeAny_call_defAt hr (X _ _ lk) rfl hl (codeRec_of X T.cdI) rfl hbind T.noCell (fun y hy => ?_) (fun h1 hn k1 => ?_) T.co T.gen T.kind
  · rw [List.mem_singleton.mp hy]; exact T.nA
  refine ks_wpAt_execs_cons ?_
  refine super_first T lk (X.keeps k1) (hg.keeps k1) hms (hb.keeps k1) hbs hn (by simp [List.lookup]) (k1 _ _ he) (fun h2 tk t1 k2 e2 => ?_) (hev _)
  dsimp only
  refine wpAt_of_wpAny (wpAny_pure ?_)
  exact hq h2 tk t1 (fun b o nb z => k2 b o nb (k1 b o z)) e2

/-- C(v): a new exception object with its dict -/
theorem make_field {fI cc cda : Addr} {qual : Str} {scope : Scope} {params : Arguments} {mg mb : Str → Option Value} {oc kV doc pm ct dV : Value} {an od : Option Addr} {osl : Array (Option Value)} {name f p : Str} {p0 p1 p2 p3 p4 p5 p6 p7 p8 p9 : Pos} {msg : Str} {k4 : Nat}
    {v : Value} (T : SupC K prog C fI cc cda B newId initId bmB qual "self" scope params) (np : ¬ ("self" : Str) = p) (hpl : scope.names.lookup p = some .local) (hf : takerIn K C f = some none)
    (lk : K.lookup fI = some ⟨oc, od, .func (ksFn name qual params [.Expr (.Call (.Attribute (.Call (.Name "super" p0) [] [] p1) "__init__" p2) [.Constant (.str msg) k4 p3] [] p4) p5, .Assign [.Attribute (.Name "self" p6) f p7] (.Name p p8) p9] scope dV kV doc pm an (.ref cda) ct cc), osl⟩)
    (X : K.In h) (hl : h.NoLimit) (hg : h.Ns mainGlobals mg) (hms : mg "super" = none) (hb : h.Ns builtinsNs mb) (hbs : mb "super" = some (.type "super")) (hr : A.depth + 1 < recursionLimit)
    (hbind : ∀ (s : Shared) (x y : Value), BindsTo s (ksFn name qual params [.Expr (.Call (.Attribute (.Call (.Name "super" p0) [] [] p1) "__init__" p2) [.Constant (.str msg) k4 p3] [] p4) p5, .Assign [.Attribute (.Name "self" p6) f p7] (.Name p p8) p9] scope dV kV doc pm an (.ref cda) ct cc) ⟨[x, y], []⟩ [("self", x), (p, y)])
    (hev : ∀ L, ∃ pl : Sem Bool, PySem.eval (.Call (.Attribute (.Call (.Name "super" p0) [] [] p1) "__init__" p2) [.Constant (.str msg) k4 p3] [] p4) (ksEnv qual scope L fI (.ref cda) cc) = (do
      let ov ← attributeBase (.Call (.Name "super" p0) [] [] p1) "__init__" (ksEnv qual scope L fI (.ref cda) cc) (PySem.eval (.Call (.Name "super" p0) [] [] p1) (ksEnv qual scope L fI (.ref cda) cc))
      standAt p2.atName
      let (f, first) ← holding [ov] (getMethod ov "__init__" pl)
      callWith p4 f first (backTo p4 (starEach [.Constant (.str msg) k4 p3] (ksEnv qual scope L fI (.ref cda) cc))) []))
    (hdp : (p == ("__debug__" : Str)) = false) (hcp : (p == ("__classdict__" : Str)) = false)
    (hq : ∀ h' tk e dx t1, (∀ b o, h.get? b = some o → h'.get? b = some o) → h.objs.size ≤ e → h.get? dx = none → dx ≠ e → h'.get? e = some (excObj C t1 (some dx) .none) → h'.Ns1 dx (fun y => if y = f then some v else none) → R (.ok (.ret (.ref e))) ⟨h', g, d, tk, os⟩) :
    codeAny (model prog w) A (.call (.ref C) ⟨[v], []⟩) R ⟨h, g, d, t, os⟩ := by
  obtain ⟨nm, N', qn, bs, bm, hdct, sn, sub, ab, col, dd, k0, k1, k2, k3, k5, hC, hT⟩ := excInit_of X T.q
  have kk : ∀ b o, h.get? b = some o → ((h.push (kdv_tup [v])).push (HandSPX.excO C h.objs.size)).get? b = some o := fun b o z => Heap.get?_push_of_some _ (Heap.get?_push_of_some _ z)
  have hget : ((h.push (kdv_tup [v])).push (HandSPX.excO C h.objs.size)).get? (h.objs.size + 1) = some (HandSPX.excO C h.objs.size) := by heap_get
  have n1 : h.get? (h.objs.size + 1) = none := Heap.get?_none_of_le (Nat.le_succ _)
  obtain ⟨oF, hoF, hcF⟩ : ∃ o, h.get? fI = some o ∧ o.cls = .type "function" := by
    obtain ⟨o, ho, hc⟩ := Option.map_eq_some_iff.mp T.tI
    exact ⟨o, X _ _ ho, hc⟩
  refine HandSPX.call_own T.FB hT hC (looks_findIn X T.iC) (fun self => exc_bind hoF hcF self) (by show 1 ≤ sizeLine; decide) ?_
  refine init_field (e := h.objs.size + 1) T np hpl hf lk X kk n1 (hl.keeps kk) (hg.keeps kk) hms (hb.keeps kk) hbs hget (by rw [L2.make_depth]; exact hr) (hbind _ _ _) hev hdp hcp fun h' tk dx t1 k' n' d' e' z' => ?_
  refine ⟨rfl, hq h' tk _ dx t1 (fun b o z => k' b o (Nat.ne_of_lt (Nat.lt_succ_of_lt (Heap.lt_size z))) (kk b o z)) (Nat.le_succ _) ?_ d' e' z'⟩
  cases z : h.get? dx with
  | none => rfl
  | some o =>
    rw [kk _ _ z] at n'
    cases n'

/-- C(): a new exception object without a dict -/
theorem make_none {fI cc cda : Addr} {qual : Str} {scope : Scope} {params : Arguments} {mg mb : Str → Option Value} {oc kV doc pm ct dV : Value} {an od : Option Addr} {osl : Array (Option Value)} {name : Str} {p0 p1 p2 p3 p4 p5 : Pos} {msg : Str} {k4 : Nat}
    (T : SupC K prog C fI cc cda B newId initId bmB qual "self" scope params)
    (lk : K.lookup fI = some ⟨oc, od, .func (ksFn name qual params [.Expr (.Call (.Attribute (.Call (.Name "super" p0) [] [] p1) "__init__" p2) [.Constant (.str msg) k4 p3] [] p4) p5] scope dV kV doc pm an (.ref cda) ct cc), osl⟩)
    (X : K.In h) (hl : h.NoLimit) (hg : h.Ns mainGlobals mg) (hms : mg "super" = none) (hb : h.Ns builtinsNs mb) (hbs : mb "super" = some (.type "super")) (hr : A.depth + 1 < recursionLimit)
    (hbind : ∀ (s : Shared) (x : Value), BindsTo s (ksFn name qual params [.Expr (.Call (.Attribute (.Call (.Name "super" p0) [] [] p1) "__init__" p2) [.Constant (.str msg) k4 p3] [] p4) p5] scope dV kV doc pm an (.ref cda) ct cc) ⟨[x], []⟩ [("self", x)])
    (hev : ∀ L, ∃ pl : Sem Bool, PySem.eval (.Call (.Attribute (.Call (.Name "super" p0) [] [] p1) "__init__" p2) [.Constant (.str msg) k4 p3] [] p4) (ksEnv qual scope L fI (.ref cda) cc) = (do
      let ov ← attributeBase (.Call (.Name "super" p0) [] [] p1) "__init__" (ksEnv qual scope L fI (.ref cda) cc) (PySem.eval (.Call (.Name "super" p0) [] [] p1) (ksEnv qual scope L fI (.ref cda) cc))
      standAt p2.atName
      let (f, first) ← holding [ov] (getMethod ov "__init__" pl)
      callWith p4 f first (backTo p4 (starEach [.Constant (.str msg) k4 p3] (ksEnv qual scope L fI (.ref cda) cc))) []))
    (hq : ∀ h' tk e t1, (∀ b o, h.get? b = some o → h'.get? b = some o) → h.objs.size ≤ e → h'.get? e = some (excObj C t1 none .none) → R (.ok (.ret (.ref e))) ⟨h', g, d, tk, os⟩) :
    codeAny (model prog w) A (.call (.ref C) ⟨[], []⟩) R ⟨h, g, d, t, os⟩ := by
  obtain ⟨nm, N', qn, bs, bm, hdct, sn, sub, ab, col, dd, k0, k1, k2, k3, k5, hC, hT⟩ := excInit_of X T.q
  have kk : ∀ b o, h.get? b = some o → ((h.push (kdv_tup [])).push (HandSPX.excO C h.objs.size)).get? b = some o := fun b o z => Heap.get?_push_of_some _ (Heap.get?_push_of_some _ z)
  have hget : ((h.push (kdv_tup [])).push (HandSPX.excO C h.objs.size)).get? (h.objs.size + 1) = some (HandSPX.excO C h.objs.size) := by heap_get
  obtain ⟨oF, hoF, hcF⟩ : ∃ o, h.get? fI = some o ∧ o.cls = .type "function" := by
    obtain ⟨o, ho, hc⟩ := Option.map_eq_some_iff.mp T.tI
    exact ⟨o, X _ _ ho, hc⟩
  refine HandSPX.call_own T.FB hT hC (looks_findIn X T.iC) (fun self => exc_bind hoF hcF self) (by show 0 ≤ sizeLine; decide) ?_
  refine init_none (e := h.objs.size + 1) T lk X kk (hl.keeps kk) (hg.keeps kk) hms (hb.keeps kk) hbs hget (by rw [L2.make_depth]; exact hr) (hbind _ _) hev fun h' tk t1 k' e' => ?_
  exact ⟨rfl, hq h' tk _ t1 (fun b o z => k' b o (Nat.ne_of_lt (Nat.lt_succ_of_lt (Heap.lt_size z))) (kk b o z)) (Nat.le_succ _) e'⟩
end
end Sx

/-! The same called with the field by its name. -/
namespace Sx
open PySem PySem.Calls Builtin Builtin.ObjectAttr HandSPX
section
variable {M : Model} {A : Around} {E : Value → Shared → Prop} {h : Heap} {g : Array GenState} {d : Drawn} {t : Nat} {os : OsState}
variable {nm q : Str} {C N : Addr} {bs bm bmB : List Value} {hdct : Bool} {sn : List Str} {sub : List Value} {ab : Bool} {col : Option Bool} {dd : Option Addr} {k0 k1 k2 k3 k5 : Option Value} {B newId initId : String}
theorem kw_check (FB : ExcBaseFacts B newId initId bmB) (hT : ∀ X : String, bm.contains (.type X) = bmB.contains (.type X)) {p : Str} {v : Value} {Q : Unit → Shared → Prop}
    (hC : h.get? C = some (excClassObj nm q C N bs bm hdct sn sub ab col dd k0 k1 k2 k3 k5 newId)) (hq : Q () ⟨h, g, d, t, os⟩) : wpAny M A (checkBuiltinCall newId ⟨[.ref C], [(p, v)]⟩) Q E ⟨h, g, d, t, os⟩ := by
  have c1 : (Value.ref C :: bm).contains (.type B) = true := by rw [List.contains_cons, hT, FB.hasB, Bool.or_true]
  have c2 := FB.noStar
  simp only [checkBuiltinCall, FB.newKind, FB.newSplit, FB.newRow]
  repeat (first | refine wpAny_loadPart_at hC ?_ | (refine wpAny_isSubtype_exc hC ?_; rw [c1]) | refine wpAny_staticBase_exc hC ?_ | refine wpAny_madeBy_exc hC ?_ | simp only [bne_self_eq_false, Bool.false_eq_true, if_false] | wp_step)
  exact hq
end
section
variable {prog : Program} {w : World} {A : Around} {E : Value → Shared → Prop} {R : Result → Shared → Prop} {h : Heap} {g : Array GenState} {d : Drawn} {t : Nat} {os : OsState}
variable {nm q : Str} {C N : Addr} {bs bm bmB : List Value} {hdct : Bool} {sn : List Str} {sub : List Value} {ab : Bool} {col : Option Bool} {dd : Option Addr} {k0 k1 k2 k3 k5 : Option Value} {B newId initId : String}
theorem kw_new (FB : ExcBaseFacts B newId initId bmB) (hT : ∀ X : String, bm.contains (.type X) = bmB.contains (.type X)) {p : Str} {v : Value}
    (hC : h.get? C = some (excClassObj nm q C N bs bm hdct sn sub ab col dd k0 k1 k2 k3 k5 newId))
    (hq : R (.ok (.ret (.ref (h.objs.size + 1)))) ⟨(h.push { cls := .type "tuple", data := .seq ([] : List Value).toArray }).push (excO C h.objs.size), g, d, t, os⟩) :
    codeAny (model prog w) A (.builtin newId ⟨[.ref C], [(p, v)]⟩) R ⟨h, g, d, t, os⟩ := by
  have c0 := FB.ends
  have c1 : (Value.ref C :: bm).contains (.type B) = true := by rw [List.contains_cons, hT, FB.hasB, Bool.or_true]
  have c2 : (Value.ref C :: bm).contains (.type "AttributeError") = false := by rw [List.contains_cons, hT, FB.noAttr]; rfl
  have c3 : (Value.ref C :: bm).contains (.type "NameError") = false := by rw [List.contains_cons, hT, FB.noName]; rfl
  refine codeAny_builtinAt FB.entry ?_
  unfold Builtin.«BaseException.__new__»
  refine wpAt_bind ?_
  show wpAt _ _ _ (stack >>= _) _ _ _
  refine wpAt_bind (wpAt_stack fun p below => wpAt_of_wpAny ?_)
  wp_walk
  refine wpAt_of_wpAny ?_
  rw [FB.owner]
  repeat (first | with_reducible refine wpAny_madeHere_exc FB.canon hC ?_ | with_reducible refine wpAny_loadPart_at hC ?_ | (with_reducible refine wpAny_isSubtype_exc hC ?_; first | rw [c1] | rw [c2] | rw [c3]) | wp_step)
  show R _ _
  rw [Heap.size_push]
  exact hq
theorem kw_type (FB : ExcBaseFacts B newId initId bmB) (hT : ∀ X : String, bm.contains (.type X) = bmB.contains (.type X)) {p : Str} {v : Value} {fI : Addr} {Q : Fin → Shared → Prop}
    (hC : h.get? C = some (excClassObj nm q C N bs bm hdct sn sub ab col dd k0 k1 k2 k3 k5 newId))
    (hi : W.Looks (model prog w) h (typeLookup (.ref C) "__init__") (some (.ref fI))) (hb : ∀ self, W.Looks (model prog w) h (bindSpecial (.ref fI) self) (.ref fI, [self]))
    (hq : codeAny (model prog w) A (.call (.ref fI) ⟨[.ref (h.objs.size + 1)], [(p, v)]⟩)
      (fun r s' => match r with | .ok (.ret v) => v = .none ∧ Q (.done (.ret (.ref (h.objs.size + 1)))) s' | .ok _ => False | .error e => E e s')
      ⟨(h.push (W.kdv_tup [])).push (excO C h.objs.size), g, d, t, os⟩) :
    wpAny (model prog w) A (Builtin.«type.__call__» ⟨[.ref C], [(p, v)]⟩) Q E ⟨h, g, d, t, os⟩ := by
  repeat (first | with_reducible refine wpAny_loadPart_at hC ?_ | with_reducible refine wpAny_madeBy_exc hC ?_ | wp_step)
  refine codeAny_call_builtin_code (Code.quiet_builtin _ FB.quiet) (kw_check FB hT hC ?_)
  refine kw_new FB hT hC ?_
  show wpAny _ _ _ _ _ _
  have k : ∀ b o, h.get? b = some o → ((h.push (W.kdv_tup [])).push (excO C h.objs.size)).get? b = some o := fun b o e => Heap.get?_push_of_some _ (Heap.get?_push_of_some _ e)
  have hC' := k _ _ hC
  have hget : ((h.push (W.kdv_tup [])).push (excO C h.objs.size)).get? (h.objs.size + 1) = some (excO C h.objs.size) := by heap_get
  have cc : (Value.ref C :: bm).contains (.ref C) = true := by simp
  have i1 := hi.keeps k
  have b1 := (hb (.ref (h.objs.size + 1))).keeps k
  unfold isInstance
  repeat (first | with_reducible refine wpAny_loadPart_at hget ?_ | (with_reducible refine wpAny_isSubtype_exc hC' ?_; rw [cc]) | wp_step)
  show wpAny _ _ (typeLookup (.ref C) _) _ _ _
  refine i1.at ?_
  refine wpAny_holding (wpAny_bind (b1.at ?_))
  refine wpAny_bind (wpAny_call (codeAny_mono hq fun r s' z => ?_))
  rcases r with x | (u | _ | _ | _) <;> first | exact z | exact False.elim z | skip
  obtain ⟨rfl, z⟩ := z
  first | exact wpAny_pure (wpAny_pure z) | (wp_walk; exact z)
theorem kw_call (FB : ExcBaseFacts B newId initId bmB) (hT : ∀ X : String, bm.contains (.type X) = bmB.contains (.type X)) {p : Str} {v : Value} {fI : Addr}
    (hC : h.get? C = some (excClassObj nm q C N bs bm hdct sn sub ab col dd k0 k1 k2 k3 k5 newId))
    (hi : W.Looks (model prog w) h (typeLookup (.ref C) "__init__") (some (.ref fI))) (hb : ∀ self, W.Looks (model prog w) h (bindSpecial (.ref fI) self) (.ref fI, [self]))
    (hq : codeAny (model prog w) (A.under (.builtin "type.__call__" ⟨[.ref C], [(p, v)]⟩)) (.call (.ref fI) ⟨[.ref (h.objs.size + 1)], [(p, v)]⟩) (W.InitBack (h.objs.size + 1) R)
      ⟨(h.push (W.kdv_tup [])).push (excO C h.objs.size), g, d, t, os⟩) :
    codeAny (model prog w) A (.call (.ref C) ⟨[], [(p, v)]⟩) R ⟨h, g, d, t, os⟩ := by
  have f1 := tc_lookup
  have f2 := tc_bind (.ref C)
  have hTy : (⟨h, g, d, t, os⟩ : Shared).TypeIs (.ref C) "type" := ⟨_, hC, rfl⟩
  refine codeAny_of_tree ?_
  show wpAny _ _ (callAny (.ref C) _) _ _ _
  repeat (any_goals (first | assumption | with_reducible refine wpAny_loadPart_at hC ?_ | wp_step))
  refine ⟨rfl, ?_⟩
  refine codeAny_call_builtin_at (Code.quiet_builtin _ (by decide +kernel)) entry_typeCall (wpAny_check_type_call_sub hC (kw_type FB hT hC hi hb ?_))
  refine codeAny_mono hq fun r s' z => ?_
  rcases r with x | (u | _ | _ | _) <;> first | exact z | exact False.elim z
end
end Sx

/-! Such exceptions over the hand layer: made as values, raised. -/
namespace Sx
open PySem PySem.Spec PyProof.Rows L2
/-- at e: an exception object of the class at C, its own dict (none | at d) -/
def exV (e C : Addr) (d : Option Addr) : HO := .ext fun h => ∃ (oe : Obj) (vs : Array Value), h.get? e = some oe ∧ Zc (.ref C) d oe ∧ oe.data = .fields vs
theorem exV_ok {P : Program} {w : World} {H : Hp} {h : Heap} {e C : Addr} {d : Option Addr} {oe : Obj} {vs : Array Value} (e1 : h.get? e = some oe) (e2 : Zc (.ref C) d oe) (e3 : oe.data = .fields vs) : ObjOk P w H h e (exV e C d) :=
  ⟨⟨oe, vs, e1, e2, e3⟩, ⟨oe, e1⟩, fun _ _ ⟨o, v, z, r⟩ k => ⟨o, v, k o z, r⟩⟩
theorem exV_ne_tup {e C : Addr} {d : Option Addr} {xs : List V} : exV e C d ≠ .tup xs := fun z => by cases z
theorem exV_ne_lst {e C : Addr} {d : Option Addr} {xs : List V} : exV e C d ≠ .lst xs := fun z => by cases z
/-- calling the class at C with its one value makes a new exception that keeps it as its field f -/
def MkF (P : Program) (K : PySem.W.Frag) (mg : Str → Option Value) (C : Addr) (f : Str) (arg : Value → Args) : Prop :=
  ∀ (w : World) (A : Around) (h : Heap) (g : Array GenState) (d : Drawn) (t : Nat) (os : OsState) (v : Value) (mb : Str → Option Value) (R : Result → Shared → Prop), A.depth + 1 < recursionLimit → K.In h → h.NoLimit → h.Ns mainGlobals mg → h.Ns builtinsNs mb → mb "super" = some (.type "super") →
    (∀ h' tk e dx t1, (∀ b o, h.get? b = some o → h'.get? b = some o) → h.objs.size ≤ e → h.get? dx = none → dx ≠ e → h'.get? e = some (PySem.W.excObj C t1 (some dx) .none) → h'.Ns1 dx (fun y => if y = f then some v else none) → R (.ok (.ret (.ref e))) ⟨h', g, d, tk, os⟩) →
    codeAny (model P w) A (.call (.ref C) (arg v)) R ⟨h, g, d, t, os⟩
/-- .. without a value -/
def MkN (P : Program) (K : PySem.W.Frag) (mg : Str → Option Value) (C : Addr) : Prop :=
  ∀ (w : World) (A : Around) (h : Heap) (g : Array GenState) (d : Drawn) (t : Nat) (os : OsState) (mb : Str → Option Value) (R : Result → Shared → Prop), A.depth + 1 < recursionLimit → K.In h → h.NoLimit → h.Ns mainGlobals mg → h.Ns builtinsNs mb → mb "super" = some (.type "super") →
    (∀ h' tk e t1, (∀ b o, h.get? b = some o → h'.get? b = some o) → h.objs.size ≤ e → h'.get? e = some (PySem.W.excObj C t1 none .none) → R (.ok (.ret (.ref e))) ⟨h', g, d, tk, os⟩) →
    codeAny (model P w) A (.call (.ref C) ⟨[], []⟩) R ⟨h, g, d, t, os⟩
section
variable {X : Cx} {pins : List (Addr × Obj)} {σ : L2.St} {H : Hp} {s : Shared}
/-- a new dict of an exception at d (and the exception at e, if it is to be tracked) -/
theorem inv_new2 {h' : Heap} {t' : Nat} {e d C : Addr} {f : Str} {x : V} {v : Value} {oe : Obj} {vs : Array Value} (I : Inv X pins σ H s) (k : ∀ b o, s.heap.get? b = some o → h'.get? b = some o) (ne : s.heap.get? e = none) (nd : s.heap.get? d = none) (nn : d ≠ e)
    (he : h'.get? e = some oe) (hz : Zc (.ref C) (some d) oe) (hv : oe.data = .fields vs) (hn : h'.Ns1 d (fun y => if y = f then some v else none)) (r : RelV x v) :
    Inv X pins σ (upd (upd H d (.xd [(f, x)])) e (exV e C (some d))) { s with heap := h', toks := t' } := by
  have He : H e = none := I.hok.gone ne
  have Hd : H d = none := I.hok.gone nd
  have a1 : ∀ {b : Addr} {o : HO}, H b = some o → b ≠ e := fun z => ne_of_none z He
  have a2 : ∀ {b : Addr} {o : HO}, H b = some o → b ≠ d := fun z => ne_of_none z Hd
  have b1 : ∀ {b : Addr} {o : Obj}, s.heap.get? b = some o → b ≠ e := fun z y => by rw [y, ne] at z; cases z
  have b2 : ∀ {b : Addr} {o : Obj}, s.heap.get? b = some o → b ≠ d := fun z y => by rw [y, nd] at z; cases z
  refine I.un ⟨fun b o q _ _ _ => k b o q, fun b o q _ _ _ => ⟨o.slots, k b o q⟩, fun b o q n _ => by rw [upd_ne (b1 q), upd_ne (b2 q)]; exact n, fun b o q _ => ⟨o, k b o q⟩, fun b xs q => by rw [upd_ne (a1 q), upd_ne (a2 q)]; exact q,
    fun b o u q => by rw [upd_ne (a1 q), upd_ne (a2 q)]; exact q, fun b ps q => ⟨#[], by rw [upd_ne (a1 q), upd_ne (a2 q), q]; simp⟩⟩ fun b o q => ?_
  by_cases hb : b = e
  · subst hb
    rw [upd_same] at q
    cases q
    exact exV_ok he hz hv
  · rw [upd_ne hb] at q
    by_cases hd : b = d
    · subst hd
      rw [upd_same] at q
      cases q
      refine ⟨_, hn, fun y => ?_⟩
      rw [lookup_put]
      by_cases hy : y = f
      · rw [if_pos hy, if_pos hy]; exact r
      · rw [if_neg hy, if_neg hy]; exact True.intro
    · rw [upd_ne hd] at q
      exact (I.hok b o q).stay (fun c u _ z => k c u z) (fun c z => by rw [upd_ne (a1 z), upd_ne (a2 z)]; exact z) fun c xs z => by rw [upd_ne (a1 z), upd_ne (a2 z)]; exact z
theorem inv_new1 {h' : Heap} {t' : Nat} {e C : Addr} {oe : Obj} {vs : Array Value} (I : Inv X pins σ H s) (k : ∀ b o, s.heap.get? b = some o → h'.get? b = some o) (ne : s.heap.get? e = none)
    (he : h'.get? e = some oe) (hz : Zc (.ref C) none oe) (hv : oe.data = .fields vs) : Inv X pins σ (upd H e (exV e C none)) { s with heap := h', toks := t' } :=
  I.laidN k ne (I.hok.gone ne) (exV_ok he hz hv)
end
/-! ### rules -/
/-- C(e) as a value -/
def tEx1 (C : Addr) (f : Str) (ta : TE) : TE := fun σ H Q => ta σ H fun v H1 => ∀ e d, H1 e = none → H1 d = none → d ≠ e → Q (.ref e) (upd (upd H1 d (.xd [(f, v)])) e (exV e C (some d)))
def tEx0 (C : Addr) : TE := fun σ H Q => ∀ e, H e = none → Q (.ref e) (upd H e (exV e C none))
def tExK (C : Addr) (f : Str) (tk : TA) : TE := fun σ H Q => tk σ H fun vs H1 => ∃ v, vs = [v] ∧ ∀ e d, H1 e = none → H1 d = none → d ≠ e → Q (.ref e) (upd (upd H1 d (.xd [(f, v)])) e (exV e C (some d)))
section
variable {X : Cx} {C : Addr} {f x : Str} {p pos kp : Pos} {e : Expr} {ta : TE} {tk : TA}
theorem blt_super (I : X.Ok) : ∃ mb, X.base.Ns builtinsNs mb ∧ mb "super" = some (.type "super") := by
  obtain ⟨mb, h1, h2⟩ := I.mod.blt
  exact ⟨mb, h1, (h2 _ (by decide +kernel)).trans (by first | boot_by_name | rfl | kernel_rfl)⟩
theorem run_exF {pins : List (Addr × Obj)} {σ : L2.St} {H : Hp} {s : Shared} {arg : Value → Args} {v : V} {u : Value} {R : Result → Shared → Prop} (M : MkF X.prog X.K X.mg C f arg) (hr : Room 1 X.A) (I : Inv X pins σ H s) (r : RelV v u)
    (q : ∀ h' tk e d t1, (∀ b o, s.heap.get? b = some o → h'.get? b = some o) → s.heap.get? e = none → s.heap.get? d = none → d ≠ e → h'.get? e = some (PySem.W.excObj C t1 (some d) .none) → h'.Ns1 d (fun y => if y = f then some u else none) → R (.ok (.ret (.ref e))) { s with heap := h', toks := tk }) :
    codeAny (model X.prog X.w) X.A (.call (.ref C) (arg u)) R s := by
  obtain ⟨mb, b1, b2⟩ := blt_super I.ok
  obtain ⟨h, g, d, t, os⟩ := s
  refine M X.w X.A h g d t os u mb R (by have := hr.dp; omega) I.kIn I.nolimit (I.mod.glob.keeps I.bk) (b1.keeps I.bk) b2 fun h' tk e dx t1 k e1 d1 n e2 d2 => ?_
  exact q h' tk e dx t1 k (Heap.get?_none_of_le e1) d1 n e2 d2
theorem pe_ex1 (M : MkF X.prog X.K X.mg C f (fun v => ⟨[v], []⟩)) (hr : Room 1 X.A) (gC : X.mg x = some (.ref C)) (kC : PySem.W.keepIn X.K (.ref C) = true) (hg : Gl X x) (he : PE X e ta)
    (hs : starEach [e] X.env = (false, eval e X.env) :: starEach [] X.env := by rfl) (hdb : (x == ("__debug__" : Str)) = false := by decide) : PE X (.Call (.Name x p) [e] [] pos) (tEx1 C f ta) := by
  refine ⟨fun pins s σ H Q I h => ?_⟩
  refine wpAny_Call_Name_kw (ld_glob I hg gC ?_ hdb)
  refine PySem.W.callWith_K (h₀ := X.base) I.ok.mod.kin kC ?_ hs (by rfl)
  rw [hs]
  refine Calls.spliced_cons (thn (he.run pins s σ H _ I h) fun u s1 ⟨v, H1, I1, r1, q1⟩ => ?_)
  refine Calls.spliced_nil ⟨I1.kIn, ?_⟩
  refine wpAny_call (run_exF M hr I1 r1 fun h' tk e d t1 k ne nd n e2 d2 => ?_)
  exact ⟨.ref e, _, inv_new2 I1 k ne nd n e2 ⟨rfl, rfl⟩ rfl d2 r1, rfl, q1 e d (I1.hok.gone ne) (I1.hok.gone nd) n⟩
theorem pe_ex0 (M : MkN X.prog X.K X.mg C) (hr : Room 1 X.A) (gC : X.mg x = some (.ref C)) (kC : PySem.W.keepIn X.K (.ref C) = true) (hg : Gl X x)
    (hdb : (x == ("__debug__" : Str)) = false := by decide) : PE X (.Call (.Name x p) [] [] pos) (tEx0 C) := by
  refine ⟨fun pins s σ H Q I h => ?_⟩
  refine wpAny_Call_Name_kw (ld_glob I hg gC ?_ hdb)
  refine PySem.W.callWith_K0 I.kIn kC (wpAny_call ?_)
  obtain ⟨mb, b1, b2⟩ := blt_super I.ok
  obtain ⟨h0, g, d, t, os⟩ := s
  refine M X.w X.A h0 g d t os mb _ (by have := hr.dp; omega) I.kIn I.nolimit (I.mod.glob.keeps I.bk) (b1.keeps I.bk) b2 fun h' tk e t1 k e1 e2 => ?_
  have ne : h0.get? e = none := Heap.get?_none_of_le e1
  exact ⟨.ref e, _, inv_new1 I k ne e2 ⟨rfl, rfl⟩ rfl, rfl, h e (I.hok.gone ne)⟩
theorem pe_exK (M : MkF X.prog X.K X.mg C f (fun v => ⟨[], [(f, v)]⟩)) (hr : Room 1 X.A) (gC : X.mg x = some (.ref C)) (kC : PySem.W.keepIn X.K (.ref C) = true) (hg : Gl X x) (he : PE X e ta)
    (hdb : (x == ("__debug__" : Str)) = false := by decide) (hall : (backToKw pos (keywordEach [⟨some f, e, kp⟩] X.env)).all (·.1.isSome) = true := by rfl) (hks : (backToKw pos (keywordEach [⟨some f, e, kp⟩] X.env)).filterMap (·.1) = [f] := by rfl)
    (hpl : ((backTo pos (starEach [] X.env)).any (·.1) || (backToKw pos (keywordEach [⟨some f, e, kp⟩] X.env)).any (·.1.isNone)) = false := by rfl) :
    PE X (.Call (.Name x p) [] [⟨some f, e, kp⟩] pos) (tExK C f (tCons ta tNil)) := by
  refine ⟨fun pins s σ H Q I h => ?_⟩
  refine wpAny_Call_Name_kw (ld_glob I hg gC ?_ hdb)
  refine PySem.W.callWith_KW0 (h₀ := X.base) I.ok.mod.kin kC hall ?_ hpl
  refine thn ((pk_cons he pk_nil).run pos pins s σ H _ I h) fun ws s2 ⟨zs, H2, I2, rz, v, ev, q2⟩ => ⟨I2.kIn, ?_⟩
  subst ev
  rw [hks]
  cases rz with
  | cons r1 rn =>
    cases rn
    refine wpAny_call (run_exF M hr I2 r1 fun h' tk e d t1 k ne nd n e2 d2 => ?_)
    exact ⟨.ref e, _, inv_new2 I2 k ne nd n e2 ⟨rfl, rfl⟩ rfl d2 r1, rfl, q2 e d (I2.hok.gone ne) (I2.hok.gone nd) n⟩
/-- an exception that is tracked, as the library's reading rules want it -/
theorem inst_exV {pins : List (Addr × Obj)} {σ : L2.St} {H : Hp} {s : Shared} {a C : Addr} {d : Option Addr} (I : Inv X pins σ H s) (e : H a = some (exV a C d)) (hd : ∀ dd, d = some dd → ∃ o, s.heap.get? dd = some o) :
    ∃ oe od, PySem.W.InstAt s.heap a oe C od ∧ ∀ dd, d = some dd → ∃ o, s.heap.get? dd = some o ∧ od = some o := by
  obtain ⟨⟨oe, vs, h1, h2, h3⟩, _⟩ := (show ObjOk X.prog X.w H s.heap a (exV a C d) from I.hok a _ e)
  have nc : PySem.W.notCls oe = true := by unfold PySem.W.notCls; rw [h3]
  cases d with
  | none => exact ⟨oe, none, ⟨h1, h2.1, nc, by rw [h2.2]; trivial⟩, fun _ z => nomatch z⟩
  | some dd =>
    obtain ⟨o, ho⟩ := hd dd rfl
    exact ⟨oe, some o, ⟨h1, h2.1, nc, by rw [h2.2]; exact ho⟩, fun dd' z => by cases z; exact ⟨o, ho, rfl⟩⟩
/-- e.f -/
def tExF (K : PySem.W.Frag) (f : Str) (te : TE) : TE := fun σ H Q => te σ H fun x H1 => ∃ (a C dd : Addr) (fs : List (Str × V)) (v : V), x = .ref a ∧ XfC K C ∧ PySem.W.findIn K (.ref C) f = some none ∧ H1 a = some (exV a C (some dd)) ∧ H1 dd = some (.xd fs) ∧ fs.lookup f = some v ∧ Q v H1
theorem pe_exF {e : Expr} {te : TE} {pos : Pos} {n : Str} (he : PE X e te) (hb : attributeBase e n X.env (eval e X.env) = eval e X.env := by rfl) : PE X (.Attribute e n pos) (tExF X.K n te) := by
  refine ⟨fun pins s σ H Q I h => ?_⟩
  refine attr_of hb (thn (he.run pins s σ H _ I h) fun u s1 hh => ?_)
  obtain ⟨x, H1, I1, rx, a, C, dd, fs, v, ex, T, hno, ea, ed, l, q⟩ := hh
  subst ex
  obtain rfl : u = Value.ref a := rx
  obtain ⟨mA, hns, hr⟩ := (show ObjOk X.prog X.w H1 s1.heap dd (.xd fs) from I1.hok dd _ ed)
  obtain ⟨od, ho, hl⟩ := lookIn_ns hns
  obtain ⟨u, hu, ru⟩ := RelO.some_of (v := v) (o := mA n) (by rw [← l]; exact hr n)
  obtain ⟨oe, od', J, hd'⟩ := inst_exV I1 ea fun d z => by cases z; exact ⟨od, ho⟩
  obtain ⟨o2, h2, e2⟩ := hd' dd rfl
  rw [ho] at h2
  cases h2
  subst e2
  exact HandSPX.exc_get I1.kIn J T.ga T.gg T.exC (PySem.W.findObj_own T.hdC hno rfl (by rw [hl, hu])) (handed_of ru) ⟨v, H1, I1.tok _, ru, q⟩
/-- isinstance(e, c) of such an exception -/
def rIsX (K : PySem.W.Frag) : List V → Hp → VK → Prop := fun xs H Q => ∃ (a D : Addr) (d : Option Addr) (c : V) (cv : Value) (b : Bool), xs = [.ref a, c] ∧ L2.ExcC K D ∧ H a = some (exV a D d) ∧ (∀ dd, d = some dd → ∃ fs, H dd = some (.xd fs)) ∧ ClsV c cv ∧ PySem.W.kitOne K (.ref D) cv = some b ∧ Q (.bl b) H
theorem call_isX : CallR X (.builtin "isinstance") (rIsX X.K) := by
  intro pins s σ H xs us Q I r h
  obtain ⟨a, D, d, c, cv, b, rfl, T, ea, hd, k, e, q⟩ := h
  obtain ⟨u1, u2, rfl, r1, r2⟩ := vals2 r
  have e2 := k.eq r2
  subst e2
  obtain rfl : u1 = Value.ref a := r1
  obtain ⟨oe, od, J, _⟩ := inst_exV I ea fun dd z => by
    obtain ⟨fs, hf⟩ := hd dd z
    obtain ⟨mA, ⟨o, _, _, ho, _⟩, _⟩ := (show ObjOk X.prog X.w H s.heap dd (.xd fs) from I.hok dd _ hf)
    exact ⟨o, ho⟩
  obtain ⟨cdD, hcD, _⟩ := PySem.W.any_some T.hd
  exact PySem.W.kia_one (PySem.W.kitx_exc (by rw [hcD]; rfl) T.hg T.hk T.hs T.ha T.hn T.ht T.hm) I.kIn J e (fun z => nomatch z) fun tk => ⟨.bl b, H, I.kept (t' := tk) fun _ _ z => z, rfl, q⟩
end
end Sx

/-! repr of what can be shown; exceptions that keep a value. -/
namespace Gx
open PySem PySem.Spec PyProof.Rows L2 Sx
/-- x is shown as the text z -/
inductive RepD (K : PySem.W.Frag) (H : Hp) : V → Str → Prop
  | non : RepD K H .non "None"
  | bl (b : Bool) : RepD K H (.bl b) (if b then "True" else "False")
  | int (i : Int) (h : i.natAbs.log2 < 1920) : RepD K H (.int i) (toString i)
  | str (x : Str) (h : (reprText x).length ≤ sizeLine) : RepD K H (.str x) (reprText x)
  | data {a : Addr} {d : PyData} (h : Dp K H (.ref a) d) (h1 : d.showable = true) (h2 : d.hasDict = false) (h3 : d.depth ≤ 60) (h4 : d.shown.length ≤ sizeLine) : RepD K H (.ref a) d.shown
  | emp {a : Addr} (h : H a = some (.dK [])) : RepD K H (.ref a) (PyData.dict []).shown
def rRep (K : PySem.W.Frag) : List V → Hp → VK → Prop := fun xs H Q => ∃ x z, xs = [x] ∧ RepD K H x z ∧ Q (.str z) H
theorem call_rep {X : Cx} {K : PySem.W.Frag} (hK : X.K = K) (hgd : X.A.guards = some []) (hu : X.A.units + 64 < cLine) : CallR X (.builtin "repr") (rRep K) := by
  subst hK
  intro pins s σ H xs us Q I r h
  obtain ⟨x, z, rfl, hz, q⟩ := h
  obtain ⟨u, rfl, ru⟩ := vals1 r
  cases hz with
  | non =>
    cases (show u = Value.none from ru)
    exact PySem.P.repr_of_none ⟨.str _, H, I.tok _, ⟨_, rfl⟩, q⟩
  | bl b =>
    cases (show u = Value.bool b from ru)
    exact PySem.P.repr_of_bool ⟨.str _, H, I.tok _, ⟨_, rfl⟩, q⟩
  | int i hi =>
    obtain ⟨t, e⟩ := (show ∃ t, u = Value.int i t from ru)
    subst e
    exact PySem.P.repr_of_int hi ⟨.str _, H, I.tok _, ⟨_, rfl⟩, q⟩
  | str y hy =>
    obtain ⟨t, e⟩ := (show ∃ t, u = Value.str y t from ru)
    subst e
    exact PySem.P.repr_of_str ⟨.str _, H, I.tok _, ⟨_, rfl⟩, q⟩ hy
  | @data a d hd h1 h2 h3 h4 =>
    obtain ⟨as, R⟩ := Dp.reads I d _ u hd ru
    obtain rfl : u = Value.ref a := ru
    refine repr_of_reads' R h1 (fun z => by rw [h2] at z; cases z) hgd (by omega) (fun _ _ z => z) (fun h' u tk kk => ?_) h4
    exact ⟨.str d.shown, H, I.kept (t' := tk) kk, ⟨u, rfl⟩, q⟩
  | @emp a ha =>
    obtain rfl : u = Value.ref a := ru
    obtain ⟨_, hs, vs, kv, o, es, ep, h1, h2, h3, h4⟩ := (show ObjOk X.prog X.w H s.heap a (.dK []) from I.hok a _ ha)
    have e0 : vs = [] := by cases kv; rfl
    subst e0
    have es0 : es.toList = [] := by
      obtain ⟨_, z, _⟩ := h4
      cases hz : es.toList with
      | nil => rfl
      | cons x l =>
        rw [hz] at z
        cases z
    have R : Reads s.heap (.ref a) (.dict []) (a :: [] ++ []) := .dict h1 h2.1 h3 (by rw [es0]; exact .nil) (by rw [es0]; exact .nil)
    refine repr_of_reads' R rfl (fun _ z => ?_) hgd (by show X.A.units + (1 + 1) < cLine; omega) (fun _ _ z => z) (fun h' u tk kk => ?_) (by decide +kernel)
    · have z : sysModules = a := by simpa using z
      rw [← z] at hs
      simp at hs
    · exact ⟨.str _, H, I.kept (t' := tk) kk, ⟨u, rfl⟩, q⟩
mutual
theorem dp_same {K : PySem.W.Frag} {H H' : Hp} (s : Same H H') : ∀ {v : V} {d : PyData}, Dp K H v d → Dp K H' v d
  | _, _, .non => .non
  | _, _, .bl b => .bl b
  | _, _, .int i => .int i
  | _, _, .str x => .str x
  | _, _, .lst h t => .lst (s.seq h) (dpAll_same s t)
  | _, _, .tup h t => .tup (by
      rcases h with (h | ⟨o, h⟩) | h
      · exact .inl (.inl (s _ _ h))
      · exact .inl (.inr ⟨o, s _ _ h⟩)
      · exact .inr h) (dpAll_same s t)
theorem dpAll_same {K : PySem.W.Frag} {H H' : Hp} (s : Same H H') : ∀ {vs : List V} {ds : List PyData}, DpAll K H vs ds → DpAll K H' vs ds
  | _, _, .nil => .nil
  | _, _, .cons h t => .cons (dp_same s h) (dpAll_same s t)
end
theorem RepD.same {K : PySem.W.Frag} {H H' : Hp} {v : V} {z : Str} (h : RepD K H v z) (s : Same H H') : RepD K H' v z := by
  cases h with
  | non => exact .non
  | bl b => exact .bl b
  | int i h => exact .int i h
  | str x h => exact .str x h
  | data h h1 h2 h3 h4 => exact .data (dp_same s h) h1 h2 h3 h4
  | emp h => exact .emp (s _ _ h)
/-- at a: an exception of the class at C that keeps v as f -/
def IsE (H : Hp) (a C : Addr) (f : Str) (v : V) : Prop := ∃ d, H a = some (exV a C (some d)) ∧ H d = some (.xd [(f, v)])
def IsN (H : Hp) (a C : Addr) : Prop := H a = some (exV a C none)
theorem IsE.same {H H' : Hp} {a C : Addr} {f : Str} {v : V} (h : IsE H a C f v) (s : Same H H') : IsE H' a C f v := let ⟨d, h1, h2⟩ := h; ⟨d, s _ _ h1, s _ _ h2⟩
theorem made {H : Hp} {e d C : Addr} {f : Str} {v : V} (ne : H e = none) (nd : H d = none) (n : d ≠ e) :
    Same H (upd (upd H d (.xd [(f, v)])) e (exV e C (some d))) ∧ IsE (upd (upd H d (.xd [(f, v)])) e (exV e C (some d))) e C f v :=
  ⟨fun b o z => by rw [upd_ne (ne_of_none z ne), upd_ne (ne_of_none z nd)]; exact z, d, upd_same, by rw [upd_ne n, upd_same]⟩
theorem sameN {H : Hp} {p : Addr} {o : HO} (h : H p = none) : Same H (upd H p o) := fun b x e => by
  rw [upd_ne (ne_of_none e h)]
  exact e
/-- what is asked of a class whose exceptions are read -/
structure RdC (K : PySem.W.Frag) (C : Addr) (f : Str) : Prop where
  x : XfC K C
  n : PySem.W.findIn K (.ref C) f = some none
theorem readE {K : PySem.W.Frag} {H : Hp} {a C : Addr} {f : Str} {v : V} {Q : VK} (i : IsE H a C f v) (T : RdC K C f) (q : Q v H) :
    ∃ (a' C' dd : Addr) (fs : List (Str × V)) (v' : V), V.ref a = .ref a' ∧ XfC K C' ∧ PySem.W.findIn K (.ref C') f = some none ∧ H a' = some (exV a' C' (some dd)) ∧ H dd = some (.xd fs) ∧ fs.lookup f = some v' ∧ Q v' H := by
  obtain ⟨d, h1, h2⟩ := i
  exact ⟨a, C, d, _, v, rfl, T.x, T.n, h1, h2, by simp [List.lookup], q⟩
end Gx

/-! repr of data in which an empty dict may stand. -/
namespace Gx
open PySem PySem.Spec PyProof.Rows L2 Sx
mutual
inductive De (K : PySem.W.Frag) (H : Hp) : V → PyData → Prop
  | non : De K H .non .none
  | bl (b : Bool) : De K H (.bl b) (.bool b)
  | int (i : Int) : De K H (.int i) (.int i)
  | str (x : Str) : De K H (.str x) (.str x)
  | emp {a : Addr} : H a = some (.dK []) → De K H (.ref a) (.dict [])
  | lst {a : Addr} {xs : List V} {ds : List PyData} : SqL K H a xs → DeAll K H xs ds → De K H (.ref a) (.list ds)
  | tup {a : Addr} {xs : List V} {ds : List PyData} : SqT K H a xs → DeAll K H xs ds → De K H (.ref a) (.tuple ds)
inductive DeAll (K : PySem.W.Frag) (H : Hp) : List V → List PyData → Prop
  | nil : DeAll K H [] []
  | cons {v : V} {vs : List V} {d : PyData} {ds : List PyData} : De K H v d → DeAll K H vs ds → DeAll K H (v :: vs) (d :: ds)
end
mutual
theorem de_same {K : PySem.W.Frag} {H H' : Hp} (s : Same H H') : ∀ {v : V} {d : PyData}, De K H v d → De K H' v d
  | _, _, .non => .non
  | _, _, .bl b => .bl b
  | _, _, .int i => .int i
  | _, _, .str x => .str x
  | _, _, .emp h => .emp (s _ _ h)
  | _, _, .lst h t => .lst (s.seq h) (deAll_same s t)
  | _, _, .tup h t => .tup (by
      rcases h with (h | ⟨o, h⟩) | h
      · exact .inl (.inl (s _ _ h))
      · exact .inl (.inr ⟨o, s _ _ h⟩)
      · exact .inr h) (deAll_same s t)
theorem deAll_same {K : PySem.W.Frag} {H H' : Hp} (s : Same H H') : ∀ {vs : List V} {ds : List PyData}, DeAll K H vs ds → DeAll K H' vs ds
  | _, _, .nil => .nil
  | _, _, .cons h t => .cons (de_same s h) (deAll_same s t)
end
section
variable {X : Cx} {pins : List (Addr × Obj)} {σ : L2.St} {H : Hp} {s : Shared}
theorem not_sys (hS : ∃ m, X.base.Ns sysModules m) (I : Inv X pins σ H s) {a : Addr} {o : Obj} {vs : Array Value} {n : Nat} (h : s.heap.get? a = some o) (hc : o.data = .seq vs n) : a ≠ sysModules := by
  intro e
  subst e
  obtain ⟨m, hm⟩ := hS
  obtain ⟨o2, es, ep, h1, h2, _⟩ := hm.keeps I.bk
  rw [h] at h1
  cases h1
  rw [hc] at h2
  cases h2
mutual
theorem De.reads (hS : ∃ m, X.base.Ns sysModules m) (I : Inv X pins σ H s) : ∀ (d : PyData) (v : V) (u : Value), De X.K H v d → RelV v u → ∃ as, Reads s.heap u d as ∧ sysModules ∉ as
  | .none, _, _, h, r => by
    cases h
    cases r
    exact ⟨_, Reads.none, by simp⟩
  | .bool b, _, _, h, r => by
    cases h
    cases r
    exact ⟨_, Reads.bool b, by simp⟩
  | .int i, _, _, h, r => by
    cases h
    obtain ⟨t, rfl⟩ := r
    exact ⟨_, Reads.int i t, by simp⟩
  | .str x, _, _, h, r => by
    cases h
    obtain ⟨t, rfl⟩ := r
    exact ⟨_, Reads.str x t, by simp⟩
  | .list ds, _, _, h, r => by
    cases h with
    | lst hs ha =>
      cases r
      obtain ⟨its, rv, ⟨o, n, ho, hc, _, hd⟩, _⟩ := I.list hs
      obtain ⟨as, hr, hn⟩ := De.readsAll hS I ds _ its ha rv
      exact ⟨_, Reads.list ho hc hd hr, fun z => by
        rcases List.mem_cons.mp z with z | z
        · exact not_sys hS I ho hd z.symm
        · exact hn z⟩
  | .tuple ds, _, _, h, r => by
    cases h with
    | tup hs ha =>
      cases r
      obtain ⟨its, rv, ⟨o, ho, hc, n, hd⟩, _⟩ := I.tuple hs
      obtain ⟨as, hr, hn⟩ := De.readsAll hS I ds _ its ha rv
      exact ⟨_, Reads.tuple ho hc hd hr, hn⟩
  | .dict _, _, _, h, r => by
    cases h with
    | @emp a ha =>
      cases r
      obtain ⟨_, hs, vs, kv, o, es, ep, h1, h2, h3, h4⟩ := (show ObjOk X.prog X.w H s.heap a (.dK []) from I.hok a _ ha)
      have e0 : vs = [] := by cases kv; rfl
      subst e0
      have es0 : es.toList = [] := by
        obtain ⟨_, z, _⟩ := h4
        cases hz : es.toList with
        | nil => rfl
        | cons x l =>
          rw [hz] at z
          cases z
      refine ⟨a :: [] ++ [], .dict h1 h2.1 h3 (by rw [es0]; exact .nil) (by rw [es0]; exact .nil), fun z => ?_⟩
      have z : sysModules = a := by simpa using z
      rw [← z] at hs
      simp at hs
theorem De.readsAll (hS : ∃ m, X.base.Ns sysModules m) (I : Inv X pins σ H s) : ∀ (ds : List PyData) (vs : List V) (us : List Value), DeAll X.K H vs ds → Vals vs us → ∃ as, ReadsAll s.heap us ds as ∧ sysModules ∉ as
  | [], _, _, h, r => by
    cases h
    cases r
    exact ⟨_, ReadsAll.nil, by simp⟩
  | d :: ds, _, _, h, r => by
    cases h with
    | cons h1 h2 =>
      cases r with
      | cons r1 r2 =>
        obtain ⟨as, q1, n1⟩ := De.reads hS I d _ _ h1 r1
        obtain ⟨bs, q2, n2⟩ := De.readsAll hS I ds _ _ h2 r2
        exact ⟨_, ReadsAll.cons q1 q2, fun z => (List.mem_append.mp z).elim n1 n2⟩
end
end
/-- d can be shown -/
def shows (d : PyData) : Bool := d.showable && decide (d.depth ≤ 60) && decide (d.shown.length ≤ sizeLine)
def rRepE (K : PySem.W.Frag) : List V → Hp → VK → Prop := fun xs H Q => ∃ (a : Addr) (d : PyData), xs = [.ref a] ∧ De K H (.ref a) d ∧ shows d = true ∧ Q (.str d.shown) H
theorem call_repE {X : Cx} {K : PySem.W.Frag} (hX : X.K = K) (hS : ∃ m, X.base.Ns sysModules m) (hgd : X.A.guards = some []) (hu : X.A.units + 64 < cLine) : CallR X (.builtin "repr") (rRepE K) := by
  subst hX
  intro pins s σ H xs us Q I r h
  obtain ⟨a, d, rfl, hd, hs, q⟩ := h
  obtain ⟨u, rfl, ru⟩ := vals1 r
  obtain rfl : u = Value.ref a := ru
  obtain ⟨as, R, hn⟩ := De.reads hS I d _ _ hd rfl
  unfold shows at hs
  simp only [Bool.and_eq_true, decide_eq_true_eq] at hs
  refine repr_of_reads' R hs.1.1 (fun _ => hn) hgd (by omega) (fun _ _ z => z) (fun h' u tk kk => ?_) hs.2
  exact ⟨.str d.shown, H, I.kept (t' := tk) kk, ⟨u, rfl⟩, q⟩
end Gx

/-! The laws' own webs, how many ties they have, comparing by what is shown. -/
namespace Sg
open PySem PySem.Spec PyProof.Rows L2 RZ StX Gx
abbrev sLike : Stmt := topS 23
abbrev sMany : Stmt := topS 28
section
variable {P : Program} {w : World} {K : PySem.W.Frag} {mg : Str → Option Value} {base : Heap}
def spLWeb : Sp := fun vs H Q _ => ∃ (m g c : Addr) (k most : Int), vs = [.ref m, .int most] ∧ MSt H m g c k ∧ k < 800000 ∧ 0 ≤ most ∧ most ≤ 12 ∧
  ∀ (H' : Hp) (q : Addr) (ys : List V) (ss : List (List Int)) (n : Nat) (k' : Int), k ≤ k' → k' ≤ k + 100 → MSt H' m g c k' → But m g H H' → H q = none → Off m g c q → H' q = some (.tup ys) → TupsAt H' ys ss → Good ss n → (∀ s ∈ ss, s.length ≤ 100) → (n : Int) ≤ most → Q (.ref q) H'
theorem scLWeb : FnScope ["m", "most"] ["m", "most"] (defScope sLWeb) := ⟨rfl, rfl, rfl, by decide +kernel, rfl, by decide +kernel, by decide +kernel⟩
theorem ok_lweb {f fE fS : Addr} {fd fdE fdS : FuncData} (F : Fun K "_law_web" "_law_web" sLWeb f fd) (GE : FnOk P w K mg base CX0 4 fE fdE ["m", "most"] spEnds) (gE : mg "_law_ends" = some (.ref fE)) (kE : PySem.W.keepIn K (.ref fE) = true) (bE : Binds K fdE ["m", "most"] [])
    (GS : FnOk P w K mg base CX0 1 fS fdS ["ends"] (spStars K)) (gS : mg "_law_stars" = some (.ref fS)) (kS : PySem.W.keepIn K (.ref fS) = true) (bS : Binds K fdS ["ends"] []) : FnOk P w K mg base CX0 5 f fd ["m", "most"] spLWeb := by
  refine F.ok scLWeb (fun vs H Q E h => ?_) (fun cdv A outer s H vs Q E hr h => ?_)
  · obtain ⟨m, g, c, k, most, rfl, _⟩ := h
    rfl
  · obtain ⟨m, g, c, k, most, rfl, M, hk, m0, m1, q⟩ := h
    refine ⟨_, pss_one (ps_ret (pe_call GS (hr.mono (by decide)) (by rfl) gS kS bS .nil pass0 (pa_cons (pe_call GE hr (by rfl) gE kE bE .nil pass0 (pa_cons (pv 0) (pa_cons (pv 1) pa_nil))) pa_nil))), ?_⟩
    refine ⟨_, rfl, _, rfl, m, g, c, k, most, rfl, M, hk, m0, m1, fun H1 p xs es k' h1 h2 B hl h24 => ?_⟩
    refine ⟨p, xs, es, rfl, SqL.of B.eD, B.P, by omega, h24, fun H2 q' ys ss s2 nq eq T perm hG hL => ?_⟩
    exact q H2 q' ys ss es.length k' h1 h2 (B.M.same s2) (B.b.trans (But.of s2)) (B.free nq) (B.M.off nq) eq T hG hL hl
/-- how many ties: 1 + the greatest -/
def spMany (K : PySem.W.Frag) : Sp := fun vs H Q _ => ∃ (q : Addr) (ys : List V) (ss : List (List Int)) (k : Nat), vs = [.ref q] ∧ SqT K H q ys ∧ Stars K H ys ss ∧ Good ss k ∧ (∀ s ∈ ss, s.length ≤ 100) ∧ ∀ H', Same H H' → Q (.int k) H'
theorem scMany : FnScope ["stars", "star"] ["stars"] (defScope sMany) := ⟨rfl, rfl, rfl, by decide +kernel, rfl, by decide +kernel, by decide +kernel⟩
theorem good_max {ss : List (List Int)} {k : Nat} (h : Good ss k) {ms : List Int} (hm : ∀ x ∈ ms, ∃ s ∈ ss, x ∈ s ∧ ∀ y ∈ s, y ≤ x) (ha : ∀ s ∈ ss, ∃ x ∈ ms, x ∈ s ∧ ∀ y ∈ s, y ≤ x) {t : Int} (ht : t ∈ -1 :: ms) (hle : ∀ y ∈ -1 :: ms, y ≤ t) : 1 + t = (k : Int) := by
  have inK : ∀ s ∈ ss, ∀ x ∈ s, 0 ≤ x ∧ x < (k : Int) := fun s hs x hx => by
    obtain ⟨z0, z1⟩ := setB_mem (h.st s hs) hx
    obtain ⟨n, rfl⟩ := Int.eq_ofNat_of_zero_le z0
    have := (h.all n (by omega)).mp (List.count_pos_iff.mpr (List.mem_flatten.mpr ⟨s, hs, hx⟩))
    omega
  cases k with
  | zero =>
    rcases List.mem_cons.mp ht with z | z
    · omega
    · obtain ⟨s, hs, hx, _⟩ := hm t z
      have := inK s hs t hx
      omega
  | succ k =>
    have hk := h.k12
    have c := (h.all k (by omega)).mpr (by omega)
    obtain ⟨s, hs, hx⟩ := List.mem_flatten.mp (List.count_pos_iff.mp c)
    obtain ⟨x, hxm, hxs, hxl⟩ := ha s hs
    have h1 := hle x (List.mem_cons_of_mem _ hxm)
    have h2 := hxl _ hx
    rcases List.mem_cons.mp ht with z | z
    · omega
    · obtain ⟨s2, hs2, hx2, _⟩ := hm t z
      have := inK s2 hs2 t hx2
      omega
theorem ok_many {f : Addr} {fd : FuncData} (F : Fun K "_law_many" "_law_many" sMany f fd) (mma : mg "max" = none) : FnOk P w K mg base CX0 1 f fd ["stars"] (spMany K) := by
  refine F.ok scMany (fun vs H Q E h => ?_) (fun cdv A outer s H vs Q E hr h => ?_)
  · obtain ⟨q, ys, ss, k, rfl, _⟩ := h
    rfl
  · obtain ⟨p, ys, ss, k, rfl, hT, hX, hG, hL, q⟩ := h
    refine ⟨_, pss_one (ps_ret (pe_op op_add pe_int (pe_callB (id := "max") (cr_max rfl) (by rfl) mma (by decide +kernel) (pa_cons (pe_op op_cat (pe_lst (pa_cons (pe_un un_neg pe_int) pa_nil))
      (pe_lc (own := [("star", 1)]) (g := gName 1) (tt := tYes) (by rfl) scMany.nd (pi_tup (pv 0)) (blkOk_by (own := [("star", 1)]) (N := ["stars", "star"]) (sc := defScope sMany) (by decide +kernel))
        (fun _ _ _ _ _ => pg_name (i := 1) scMany.nd rfl (Or.inl rfl)) (fun _ _ _ _ _ => pts_nil) (fun _ _ _ _ _ => pe_callB (id := "max") (cr_maxT (K := K) rfl rfl) (by rfl) mma (by decide +kernel) (pa_cons (pv 1) pa_nil)))) pa_nil)))), ?_⟩
    refine ⟨_, rfl, by show 1 ≤ sizeLine; decide, fun L nL => ?_⟩
    have s1 := same_new (o := .lst [V.int (-1)]) nL
    have eL : (upd H L (.lst [V.int (-1)])) L = some (.lst [V.int (-1)]) := upd_same
    generalize upd H L (.lst [V.int (-1)]) = H1 at s1 eL ⊢
    refine ⟨_, rfl, p, rfl, ⟨_, same_tup s1 hT⟩, fun D nD => ?_⟩
    refine lc_tup (K := K) (a := p) (xs := ys) (fun i H' => Same H1 H' ∧ ∃ ms : List Int, ms.length = i ∧ H' D = some (.lst (ms.map V.int)) ∧ ∀ (j : Nat) (s : List Int), j < i → ss[j]? = some s → ∃ x, ms[j]? = some x ∧ x ∈ s ∧ ∀ y ∈ s, y ≤ x)
      ⟨same_new nD, [], rfl, upd_same, fun j s hj => by omega⟩ (fun i H' _ hp => same_tup (s1.trans hp.1) hT) (fun i x H' hx hp => ?_) (fun H' hp => ?_)
    · obtain ⟨sm, ms, lm, eD, hm⟩ := hp
      have hi : i < ss.length := by rw [← hX.1]; exact (List.getElem?_eq_some_iff.mp hx).1
      have gs : ss[i]? = some ss[i] := List.getElem?_eq_getElem hi
      have hmem := List.getElem_mem hi
      generalize ss[i] = st at gs hmem
      obtain ⟨a, h1, h2⟩ := hX.2 i st gs
      rw [hx] at h1
      cases h1
      have hne := hG.ne st hmem
      have hn := hG.n
      refine ⟨rfl, tyes_ite ?_⟩
      refine ⟨_, rfl, a, st, rfl, .inr (same_tup (s1.trans sm) h2), ?_, fun t ht hle => ?_⟩
      · cases st with
        | nil => exact absurd rfl hne
        | cons _ _ => simp
      refine ⟨_, eD, by rw [List.length_map]; exact small1000 (by omega), fun b o e => ?_, ms ++ [t], by rw [List.length_append, lm]; rfl, ?_, fun j s hj gj => ?_⟩
      · rw [upd_ne (ne_of_none e nD)]
        exact sm b o e
      · rw [upd_same, List.map_append]; rfl
      · by_cases z : j < i
        · obtain ⟨x, k1, k2⟩ := hm j s z gj
          exact ⟨x, by rw [List.getElem?_append_left (by omega)]; exact k1, k2⟩
        · obtain rfl : j = i := by omega
          rw [gs] at gj
          cases gj
          exact ⟨t, by rw [List.getElem?_append_right (by omega), lm, Nat.sub_self]; rfl, ht, hle⟩
    · obtain ⟨sm, ms, lm, eD, hm⟩ := hp
      have hn := hG.n
      refine ⟨L, D, _, _, rfl, rfl, sm _ _ eL, eD, ?_, fun R nR => ?_⟩
      · rw [List.length_map, lm, hX.1]
        exact Nat.le_of_lt (small1000 (by show 1 + ss.length ≤ 1000; omega))
      refine ⟨R, -1 :: ms, rfl, SqL.of (by rw [upd_same]; rfl), by simp, fun t ht hle => ?_⟩
      refine ⟨_, _, rfl, rfl, ?_⟩
      have hx := hX.1
      show Q (.int (1 + t)) _
      rw [good_max hG (ms := ms) (fun x hx2 => ?_) (fun s hs => ?_) ht hle]
      · exact q _ (s1.trans (sm.trans (same_new nR)))
      · obtain ⟨j, hj, ej⟩ := List.mem_iff_getElem.mp hx2
        have gs : ss[j]? = some (ss[j]'(by omega)) := List.getElem?_eq_getElem _
        obtain ⟨x', k1, k2⟩ := hm j _ (by omega) gs
        rw [List.getElem?_eq_getElem hj, ej] at k1
        cases k1
        exact ⟨_, List.getElem_mem _, k2⟩
      · obtain ⟨j, hj, ej⟩ := List.mem_iff_getElem.mp hs
        obtain ⟨x', k1, k2⟩ := hm j s (by omega) (by rw [List.getElem?_eq_getElem hj, ej])
        exact ⟨x', List.mem_of_getElem? k1, k2⟩
/-! ### _law_like -/
def spLike (K : PySem.W.Frag) : Sp := fun vs H Q _ => ∃ (a b : Addr) (d e : PyData), vs = [.ref a, .ref b] ∧ De K H (.ref a) d ∧ De K H (.ref b) e ∧ shows d = true ∧ shows e = true ∧ Q (.bl (decide (V.str d.shown = V.str e.shown))) H
theorem scLike : FnScope ["told", "due"] ["told", "due"] (defScope sLike) := ⟨rfl, rfl, rfl, by decide +kernel, rfl, by decide +kernel, by decide +kernel⟩
theorem ok_like {f : Addr} {fd : FuncData} (F : Fun K "_law_like" "_law_like" sLike f fd) (tS : ∃ m, base.Ns sysModules m) (mre : mg "repr" = none) : FnG P w K mg base CX0 1 f fd ["told", "due"] (spLike K) := by
  refine okG F scLike (fun vs H Q E h => ?_) (fun cdv A outer s H vs Q E hgd hr h => ?_)
  · obtain ⟨a, b, d, e, rfl, _⟩ := h
    rfl
  · obtain ⟨a, b, d, e, rfl, hd, he, sd, se, q⟩ := h
    refine ⟨_, pss_one (ps_ret (pe_cmpR op_eq (pe_callB (id := "repr") (call_repE (K := K) rfl tS hgd hr.units) (by rfl) mre (by decide +kernel) (pa_cons (pv 0) pa_nil)) (pe_callB (id := "repr") (call_repE (K := K) rfl tS hgd hr.units) (by rfl) mre (by decide +kernel) (pa_cons (pv 1) pa_nil)) (nomark _))), ?_⟩
    exact ⟨_, rfl, a, d, rfl, hd, sd, _, rfl, b, e, rfl, he, se, rfl, q⟩
end
end Sg

/-! Web(stars) and its == where the stars are right. -/
namespace Sg
open PySem PySem.Spec PyProof.Rows L2 RZ
abbrev sWInit : Stmt := inClass (topS 15) 0
abbrev sWEq : Stmt := inClass (topS 15) 2
/-- over a list or a tuple -/
def iSeqA (K : PySem.W.Frag) (tl : TE) : TI := fun σ H R => tl σ H fun x H1 => ∃ a xs, x = .ref a ∧ ((SqL K H1 a xs ∧ R (Itl K a) H1) ∨ (SqT K H1 a xs ∧ R (Itt K a) H1))
theorem pi_seqA {X : Cx} {tg l : Expr} {tl : TE} (hl : PE X l tl) : PI X tg l (iSeqA X.K tl) := by
  refine ⟨fun pins s σ H R I h => ?_⟩
  refine thn (hl.run pins s σ H _ I h) fun v s1 ⟨x, H1, I1, r1, q1⟩ => ?_
  obtain ⟨a, xs, e, q⟩ := q1
  subst e
  cases r1
  have fr : ∀ b, b ∈ [s1.heap.objs.size] → FpOk X pins H1 b := fun b hb => by
    have e : b = s1.heap.objs.size := by simpa using hb
    subst e
    exact I1.fpOk (Nat.le_refl _) (I1.hok.fresh (Nat.le_refl _))
  rcases q with ⟨hq, q⟩ | ⟨hq, q⟩
  · obtain ⟨its, rv, p, hz⟩ := I1.list hq
    refine wpAny_pyIter_list p.isList ?_
    exact ⟨s1.heap.objs.size, [s1.heap.objs.size], _, _, H1, rfl, I1.kept (t' := s1.toks) fun b o e => Heap.get?_push_of_some _ e, turn_list a _, ⟨_, Heap.get?_push_size _ rfl, rfl, rfl⟩, fr, q⟩
  · obtain ⟨its, rv, p, hz⟩ := I1.tuple hq
    refine wpAny_pyIter_tuple (show s1.heap.IsTuple a its.toArray from p) ?_
    exact ⟨s1.heap.objs.size, [s1.heap.objs.size], _, _, H1, rfl, I1.kept (t' := s1.toks) fun b o e => Heap.get?_push_of_some _ e, turn_tuple a _, ⟨_, Heap.get?_push_size _ rfl, rfl, rfl⟩, fr, q⟩
theorem seq_var {K : PySem.W.Frag} {σ : L2.St} {Hb H : Hp} {R : It → Hp → Prop} {i : Nat} {a : Addr} {xs : List V} (hσ : σ[i]? = some (some (.ref a))) (h : SqA K Hb a xs) (s : Same Hb H)
    (k : ∀ (J : It) (G : Hp → Prop), Walk J xs.length G (YAt xs) → (∀ H', Same Hb H' → G H') → R J H) : iSeqA K (tVar i) σ H R := by
  refine ⟨_, hσ, a, xs, rfl, ?_⟩
  rcases h with h | h
  · exact .inl ⟨s.seq h, k _ _ walk_list fun H' s => s.seq h⟩
  · exact .inr ⟨same_tup s h, k _ _ walk_tup fun H' s => same_tup s h⟩
def rTupA (K : PySem.W.Frag) : List V → Hp → VK → Prop := fun xs H Q => ∃ p ys, xs = [.ref p] ∧ SqT K H p ys ∧ Q (.ref p) H
theorem call_tupK {X : Cx} {K : PySem.W.Frag} (h : X.K = K) : CallR X (.type "tuple") (rTupA K) := by
  subst h
  intro pins s σ H xs us Q I r h
  obtain ⟨p, ys, e, h1, q⟩ := h
  exact call_tuple_of pins s σ H xs us Q I r ⟨p, ys, e, .inr ⟨h1, q⟩⟩
section
variable {P : Program} {w : World} {K : PySem.W.Frag} {mg : Str → Option Value} {base : Heap}
/-- all but what stands at x stays -/
def ButX (x : Addr) (H H' : Hp) : Prop := ∀ b o, b ≠ x → H b = some o → H' b = some o
theorem nStSi : ¬ (("stars" : Str) = "sides") := by decide +kernel
theorem lc_seqA {σ : L2.St} {Hb H : Hp} {g : TG} {tt : TT} {te : TE} {vs : List Nat} {Q : VK} {i : Nat} {a : Addr} {xs : List V} (hσ : σ[i]? = some (some (.ref a))) (h : SqA K Hb a xs) (s : Same Hb H)
    (k : ∀ D, H D = none → ∃ Pv : Nat → Hp → Prop, Pv 0 (upd H D (.lst [])) ∧ (∀ i H', Pv i H' → Same Hb H') ∧ (∀ i x H1 H2, i < xs.length → Pv i H1 → YAt xs i H1 x H2 → g x (wipe σ vs) H2 fun σ2 H2 => wipe σ2 vs = wipe σ vs ∧ tt σ2 H2 fun b H3 =>
      if b = true then te σ2 H3 fun y H4 => ∃ acc, H4 D = some (.lst acc) ∧ acc.length < sizeLine ∧ Pv (i + 1) (upd H4 D (.lst (acc ++ [y]))) else Pv (i + 1) H3) ∧ ∀ H', Pv xs.length H' → Q (.ref D) H') : tLc (iSeqA K (tVar i)) g tt te vs σ H Q :=
  seq_var hσ h s fun _ _ w hG D nD => let ⟨Pv, h0, hg, hs, hd⟩ := k D nD; lc_it w Pv h0 (fun i H _ p => hG _ (hg i H p)) hs hd
theorem butX_upd {x : Addr} {H : Hp} {o : HO} : ButX x H (upd H x o) := fun b u n e => by rw [upd_ne n]; exact e
theorem ButX.trans {x : Addr} {H H1 H2 : Hp} (a : ButX x H H1) (b : ButX x H1 H2) : ButX x H H2 := fun c o n e => b c o n (a c o n e)
theorem ButX.of {x : Addr} {H H' : Hp} (s : Same H H') : ButX x H H' := fun b o _ e => s b o e
/-- a web's fields -/
def wf (p q : Addr) : List (Str × V) := putF "sides" (.ref q) (putF "stars" (.ref p) [])
theorem wf_stars (p q : Addr) : (wf p q).lookup ("stars" : Str) = some (.ref p) := by
  unfold wf
  rw [lookup_putF, if_neg nStSi, lookup_putF, if_pos rfl]
theorem wf_sides (p q : Addr) : (wf p q).lookup ("sides" : Str) = some (.ref q) := by
  unfold wf
  rw [lookup_putF, if_pos rfl]
/-- what the class at C is asked -/
structure WebC (K : PySem.W.Frag) (mg : Str → Option Value) (C : Addr) : Prop where
  cl : Cls K C
  nSt : NoAttr K C "stars"
  nSi : NoAttr K C "sides"
  g : mg "Web" = some (.ref C)
/-- a web stands at x -/
def WebAt (K : PySem.W.Frag) (C : Addr) (H : Hp) (x : Addr) (ss : List (List Int)) (k : Nat) : Prop :=
  ∃ (dx p q : Addr) (xs : List V), H x = some (.ins C dx (wf p q)) ∧ SqT K H p xs ∧ Stars K H xs ss ∧ SidesAt K H q ss k
theorem WebAt.same {C x : Addr} {H H' : Hp} {ss : List (List Int)} {k : Nat} (h : WebAt K C H x ss k) (s : Same H H') : WebAt K C H' x ss k :=
  let ⟨dx, p, q, xs, h1, h2, h3, h4⟩ := h; ⟨dx, p, q, xs, s _ _ h1, same_tup s h2, h3.same s, h4.same s⟩
theorem butX_tup {x C dx a : Addr} {fs : List (Str × V)} {H H' : Hp} {xs : List V} (e : ButX x H H') (hx : H x = some (.ins C dx fs)) (h : SqT K H a xs) : SqT K H' a xs := by
  have ne : ∀ o', H a = some o' → o' ≠ .ins C dx fs → a ≠ x := fun o' e z q => by
    rw [q, hx] at e
    exact z (Option.some.inj e).symm
  rcases h with (h | ⟨o', h⟩) | h
  · exact .inl (.inl (e _ _ (ne _ h (fun z => nomatch z)) h))
  · exact .inl (.inr ⟨o', e _ _ (ne _ h (fun z => nomatch z)) h⟩)
  · exact .inr h
theorem Stars.butX {x C dx : Addr} {fs : List (Str × V)} {H H' : Hp} {xs : List V} {ss : List (List Int)} (h : Stars K H xs ss) (e : ButX x H H') (hx : H x = some (.ins C dx fs)) : Stars K H' xs ss := ⟨h.1, fun i t g => let ⟨a, h1, h2⟩ := h.2 i t g; ⟨a, h1, butX_tup e hx h2⟩⟩
def spWInit (K : PySem.W.Frag) (C : Addr) : Sp := fun vs H Q _ => ∃ (x a dx : Addr) (xs : List V) (ss : List (List Int)) (k : Nat), vs = [.ref x, .ref a] ∧ H x = some (.ins C dx []) ∧ SqA K H a xs ∧ Stars K H xs ss ∧ Good ss k ∧ (∀ s ∈ ss, s.length ≤ 100) ∧
  ∀ H', ButX x H H' → WebAt K C H' x ss k → Q .non H'
theorem scWInit : FnScope ["self", "stars", "star"] ["self", "stars"] (defScope sWInit) := ⟨rfl, rfl, rfl, by decide +kernel, rfl, by decide +kernel, by decide +kernel⟩
theorem ok_winit {f fC fS C : Addr} {fd fdC fdS : FuncData} (F : Fun K "__init__" "Web.__init__" sWInit f fd) (T : WebC K mg C) (GC : FnOk P w K mg base CX0 3 fC fdC ["stars"] (spCheck K)) (gC : mg "check_stars" = some (.ref fC)) (kC : PySem.W.keepIn K (.ref fC) = true) (bC : Binds K fdC ["stars"] [])
    (GS : FnOk P w K mg base CX0 1 fS fdS ["stars"] (spSides K)) (gS : mg "sides_of" = some (.ref fS)) (kS : PySem.W.keepIn K (.ref fS) = true) (bS : Binds K fdS ["stars"] []) (mt : mg "tuple" = none) : FnOk P w K mg base CX0 4 f fd ["self", "stars"] (spWInit K C) := by
  refine F.ok scWInit (fun vs H Q E h => ?_) (fun cdv A outer s H vs Q E hr h => ?_)
  · obtain ⟨x, a, dx, xs, ss, k, rfl, _⟩ := h
    rfl
  · obtain ⟨x, a, dx, xs, ss, k, rfl, hx, hS, hX, hG, hL, q⟩ := h
    refine ⟨_, pss_cons (ps_expr (pe_call GC hr (by rfl) gC kC bC .nil pass0 (pa_cons (pv 1) pa_nil)))
      (pss_cons (ps_fld (pv 0) (pe_callTy call_tuple_of (by rfl) mt (by decide +kernel) (pa_cons (pe_lc (own := [("star", 2)]) (g := gName 2) (tt := tYes) (by rfl) scWInit.nd (pi_seqA (pv 1)) (blkOk_by (own := [("star", 2)]) (N := ["self", "stars", "star"]) (sc := defScope sWInit) (by decide +kernel))
          (fun _ _ _ _ _ => pg_name (i := 2) scWInit.nd rfl (Or.inl rfl)) (fun _ _ _ _ _ => pts_nil) (fun _ _ _ _ _ => pe_callTy (call_tupK (K := K) rfl) (by rfl) mt (by decide +kernel) (pa_cons (pv 2) pa_nil))) pa_nil)) rfl)
      (pss_one (ps_fld (pv 0) (pe_call GS (hr.mono (by decide)) (by rfl) gS kS bS .nil pass0 (pa_cons (pe_fld (pv 0) rfl) pa_nil)) rfl))), ?_⟩
    refine ⟨_, rfl, a, xs, ss, k, rfl, hS, hX, hG, hL, fun H1 s1 => ?_⟩
    -- self.stars = tuple([tuple(star) for star in stars])
    show tSeq _ _ _ [some (.ref x), some (.ref a), none] H1
    unfold tSeq sFld tCB tCons tNil
    dsimp only
    show tLc (iSeqA K (tVar 1)) _ _ _ _ [some (.ref x), some (.ref a), none] H1 _
    refine lc_seqA rfl hS s1 fun D nD => ⟨fun i H' => Same H1 H' ∧ H' D = some (.lst (xs.take i)), ⟨same_new nD, upd_same⟩, fun i H' p => s1.trans p.1, fun i y H2 H3 hi hp hy => ?_, fun H2 hp => ?_⟩
    · obtain ⟨sm, eD⟩ := hp
      obtain ⟨rfl, hx'⟩ := hy
      have gs : ss[i]? = some (ss[i]'(by rw [← hX.1]; exact hi)) := List.getElem?_eq_getElem _
      generalize ss[i]'(by rw [← hX.1]; exact hi) = st at gs
      obtain ⟨sa, f3, hsa⟩ := hX.2 i st gs
      rw [f3] at hx'
      cases hx'
      refine ⟨rfl, tyes_ite ?_⟩
      refine ⟨_, rfl, sa, _, rfl, same_tup (s1.trans sm) hsa, _, eD, ?_, fun b o e => ?_, ?_⟩
      · rw [List.length_take]; have := hG.n; have := hX.1; exact small1000 (by omega)
      · rw [upd_ne (ne_of_none e nD)]
        exact sm b o e
      · rw [upd_same, List.take_add_one, f3]
        rfl
    obtain ⟨sm, eD⟩ := hp
    rw [List.take_length] at eD
    refine ⟨D, _, rfl, .inl ⟨SqL.of eD, fun p np => ?_⟩⟩
    have s2 := s1.trans (sm.trans (same_new (o := .tup xs) np))
    have ep : SqT K (upd H2 p (.tup xs)) p xs := SqT.of upd_same
    generalize upd H2 p (.tup xs) = H3 at s2 ep ⊢
    have hx3 := s2 _ _ hx
    refine ⟨_, rfl, x, C, dx, [], rfl, hx3, T.cl, T.nSt, by show 0 < 1000; decide, ?_⟩
    have e4 : ButX x H3 (upd H3 x (.ins C dx (putF "stars" (.ref p) []))) := butX_upd
    have hx4 : (upd H3 x (.ins C dx (putF "stars" (.ref p) []))) x = some (.ins C dx (putF "stars" (.ref p) [])) := upd_same
    generalize upd H3 x (.ins C dx (putF "stars" (.ref p) [])) = H4 at e4 hx4 ⊢
    -- self.sides = sides_of(self.stars)
    have ep4 := butX_tup e4 hx3 ep
    have hX4 := (hX.same s2).butX e4 hx3
    refine ⟨_, rfl, x, C, dx, _, _, rfl, hx4, T.cl, T.nSt, (by rw [lookup_putF, if_pos rfl] <;> rfl), p, xs, ss, k, rfl, ep4, hX4, hG, fun H5 q' s5 nq hsd => ?_⟩
    have hx5 := s5 _ _ hx4
    refine ⟨_, rfl, x, C, dx, _, rfl, hx5, T.cl, T.nSi, by show 1 < 1000; decide, ?_⟩
    have e6 : ButX x H5 (upd H5 x (.ins C dx (wf p q'))) := butX_upd
    obtain ⟨as, z1, z2, z3⟩ := hsd
    exact q _ ((ButX.of s2).trans (e4.trans ((ButX.of s5).trans e6))) ⟨dx, p, q', xs, upd_same, butX_tup e6 hx5 (same_tup s5 ep4), (hX4.same s5).butX e6 hx5, as, z1, butX_tup e6 hx5 z2, fun t b e => butX_tup e6 hx5 (z3 t b e)⟩
/-! ### == of webs -/
def datS (s : List Int) : PyData := .tuple (s.map PyData.int)
def dat (ss : List (List Int)) : PyData := .tuple (ss.map datS)
theorem dp_star {H : Hp} {a : Addr} {s : List Int} (h : SqT K H a (s.map V.int)) : Dp K H (.ref a) (datS s) := .tup h (dpAll_ints s)
theorem dpAll_stars {H : Hp} : ∀ {xs : List V} {ss : List (List Int)}, Stars K H xs ss → DpAll K H xs (ss.map datS)
  | [], [], _ => .nil
  | [], _ :: _, h => by cases h.1
  | _ :: _, [], h => by cases h.1
  | x :: xs, s :: ss, h => by
    obtain ⟨a, h1, h2⟩ := h.2 0 s rfl
    cases h1
    exact .cons (dp_star h2) (dpAll_stars ⟨Nat.succ.inj h.1, fun i t e => h.2 (i + 1) t e⟩)
theorem dp_stars {H : Hp} {p : Addr} {xs : List V} {ss : List (List Int)} (h : SqT K H p xs) (hs : Stars K H xs ss) : Dp K H (.ref p) (dat ss) := .tup h (dpAll_stars hs)
theorem shaped_dat (ss : List (List Int)) : SeqAt.shaped (dat ss) = true := by
  have h1 : ∀ ss : List (List Int), PyData.canLayAll0 (ss.map datS) = true := by
    intro ss
    induction ss with
    | nil => rfl
    | cons s r ih =>
      show (PyData.canLayAll0 (s.map PyData.int) && PyData.canLayAll0 (r.map datS)) = true
      rw [ih, canLay_ints]; rfl
  have h2 : ∀ ss : List (List Int), PyData.depthAll (ss.map datS) ≤ 1 := by
    intro ss
    induction ss with
    | nil => exact Nat.zero_le _
    | cons s r ih =>
      show max (PyData.depthAll (s.map PyData.int) + 1) (PyData.depthAll (r.map datS)) ≤ 1
      rw [depth_ints]
      omega
  show (PyData.canLayAll0 (ss.map datS) && decide (PyData.depthAll (ss.map datS) + 1 ≤ 64)) = true
  rw [h1, Bool.true_and, decide_eq_true_eq]
  have := h2 ss
  omega
theorem eqv_dat (ss : List (List Int)) : PyData.eqv (dat ss) (dat ss) = true := SeqAt.eqv_refl _ (SeqAt.canLay_of_shaped (shaped_dat ss))
/-- what isinstance asks of the class -/
structure WebI (K : PySem.W.Frag) (C : Addr) : Prop where
  ha : PySem.W.findIn K (.ref C) "__class__" = some (some (.builtin "object.__class__"))
  hn : PySem.W.specialIn K (.builtin "object.__class__") "__get__" = some (some (.builtin "getset_descriptor.__get__"))
  htk : PySem.W.takesIn K (.builtin "object.__class__") = some true
  hm : PySem.W.mroIn K C (.type "object") = some true
  kk : PySem.W.kitOne K (.ref C) (.ref C) = some true
def spWEq (K : PySem.W.Frag) (C : Addr) : Sp := fun vs H Q _ => ∃ (x : Addr) (y : V) (ss : List (List Int)) (k : Nat), vs = [.ref x, y] ∧ WebAt K C H x ss k ∧
  ((∃ t, TyX K H y t ∧ PySem.W.kitOne K t (.ref C) = some false ∧ Q (.bl false) H) ∨ (∃ (x2 : Addr) (ss2 : List (List Int)) (k2 : Nat), y = .ref x2 ∧ WebAt K C H x2 ss2 k2 ∧ Q (.bl (PyData.eqv (dat ss) (dat ss2))) H))
theorem scWEq : FnScope ["self", "other"] ["self", "other"] (defScope sWEq) := ⟨rfl, rfl, rfl, by decide +kernel, rfl, by decide +kernel, by decide +kernel⟩
theorem ok_weq {f C : Addr} {fd : FuncData} (F : Fun K "__eq__" "Web.__eq__" sWEq f fd) (T : WebC K mg C) (TI : WebI K C) (mis : mg "isinstance" = none) : FnOk P w K mg base CX0 1 f fd ["self", "other"] (spWEq K C) := by
  refine F.ok scWEq (fun vs H Q E h => ?_) (fun cdv A outer s H vs Q E hr h => ?_)
  · obtain ⟨x, y, ss, k, rfl, _⟩ := h
    rfl
  · obtain ⟨x, y, ss, k, rfl, hW, q⟩ := h
    refine ⟨_, pss_one (ps_ret (pe_and (pe_callB call_isi (by rfl) mis (by decide +kernel) (pa_cons (pv 1) (pa_cons (pe_glob (v := .ref C) (by rfl) T.g rfl) pa_nil)))
      (pe_one (pe_cmpR (op_eqD hr.units) (pe_fld (pv 0) rfl) (pe_fld (pv 1) rfl) (nomark _))))), ?_⟩
    rcases q with ⟨t, ty, kt, q⟩ | ⟨x2, ss2, k2, rfl, hW2, q⟩
    · refine ⟨_, rfl, _, _, _, _, _, rfl, .own C, ty, kt, false, rfl, ?_⟩
      exact ite_ff q
    · obtain ⟨dx, p, qq, xs, h1, h2, h3, h4⟩ := hW
      obtain ⟨dx2, p2, qq2, xs2, g1, g2, g3, g4⟩ := hW2
      refine ⟨_, rfl, _, _, _, _, _, rfl, .own C, .base (.ins g1 T.cl TI.ha TI.hn TI.htk TI.hm), TI.kk, true, rfl, ?_⟩
      refine ite_tt ?_
      exact ⟨_, rfl, x, C, dx, _, _, rfl, h1, T.cl, T.nSt, wf_stars _ _, _, rfl, x2, C, dx2, _, _, rfl, g1, T.cl, T.nSt, wf_stars _ _, dat ss, dat ss2, dp_stars h2 h3, dp_stars g2 g3, shaped_dat _, shaped_dat _, q⟩
end
end Sg

namespace Sg
open PySem PySem.Spec PyProof.Rows L2 Gx Sx
/-- an exception of the class at D stands at a -/
def ExOf (H : Hp) (a D : Addr) : Prop := ∃ d, H a = some (exV a D d) ∧ ∀ dd, d = some dd → ∃ fs, H dd = some (.xd fs)
theorem ExOf.same {H H' : Hp} {a D : Addr} (h : ExOf H a D) (s : Same H H') : ExOf H' a D := let ⟨d, h1, h2⟩ := h; ⟨d, s _ _ h1, fun dd z => let ⟨fs, q⟩ := h2 dd z; ⟨fs, s _ _ q⟩⟩
theorem exOf_e {H : Hp} {a C : Addr} {f : Str} {v : V} (h : IsE H a C f v) : ExOf H a C := let ⟨d, h1, h2⟩ := h; ⟨some d, h1, fun dd z => ⟨_, by cases z; exact h2⟩⟩
theorem exOf_n {H : Hp} {a C : Addr} (h : IsN H a C) : ExOf H a C := ⟨none, h, fun _ z => nomatch z⟩
theorem isx {K : PySem.W.Frag} {H : Hp} {a D : Addr} {c : V} {cv : Value} {b : Bool} {Q : VK} (h : ExOf H a D) (T : L2.ExcC K D) (k : ClsV c cv) (e : PySem.W.kitOne K (.ref D) cv = some b) (q : Q (.bl b) H) : rIsX K [.ref a, c] H Q :=
  let ⟨d, h1, h2⟩ := h; ⟨a, D, d, c, cv, b, rfl, T, h1, h2, k, e, q⟩
/-- a class with one field, as the top has made it -/
structure Row (P : Program) (K : PySem.W.Frag) (mg : Str → Option Value) (x : Str) (C : Addr) (f : Str) : Prop where
  g : mg x = some (.ref C)
  k : PySem.W.keepIn K (.ref C) = true
  m1 : MkF P K mg C f (fun v => ⟨[v], []⟩)
  mK : MkF P K mg C f (fun v => ⟨[], [(f, v)]⟩)
  rd : RdC K C f
  ex : L2.ExcC K C
structure RowN (P : Program) (K : PySem.W.Frag) (mg : Str → Option Value) (x : Str) (C : Addr) : Prop where
  g : mg x = some (.ref C)
  k : PySem.W.keepIn K (.ref C) = true
  m0 : MkN P K mg C
  ex : L2.ExcC K C
structure Errs (P : Program) (K : PySem.W.Frag) (mg : Str → Option Value) (c0 c1 c2 c3 c4 c5 c6 c7 cR : Addr) : Prop where
  r0 : Row P K mg "BadStars" c0 "place"
  r1 : Row P K mg "BadEnds" c1 "place"
  r2 : Row P K mg "BadSet" c2 "value"
  r3 : Row P K mg "BadDeed" c3 "place"
  r4 : Row P K mg "BadNumber" c4 "value"
  r5 : RowN P K mg "OtherTies" c5
  r6 : Row P K mg "BadName" c6 "value"
  r7 : Row P K mg "TooGreat" c7 "most"
  gR : mg "RoundError" = some (.ref cR)
  kk : ∀ (i j : Nat) (a b : Addr), [c0, c1, c2, c3, c4, c5, c6, c7][i]? = some a → [c0, c1, c2, c3, c4, c5, c6, c7][j]? = some b → PySem.W.kitOne K (.ref a) (.ref b) = some (decide (i = j))
  kR : ∀ (i : Nat) (a : Addr), [c0, c1, c2, c3, c4, c5, c6, c7][i]? = some a → PySem.W.kitOne K (.ref a) (.ref cR) = some (decide (i < 7))
  kV : ∀ (i : Nat) (a : Addr), [c0, c1, c2, c3, c4, c5, c6, c7][i]? = some a → PySem.W.kitOne K (.ref a) (.type "ValueError") = some (decide (i < 7))
  kO : ∀ (i : Nat) (a : Addr), [c0, c1, c2, c3, c4, c5, c6, c7][i]? = some a → PySem.W.kitOne K (.ref a) (.type "OverflowError") = some (decide (i = 7))
theorem Errs.ex {P : Program} {K : PySem.W.Frag} {mg : Str → Option Value} {c0 c1 c2 c3 c4 c5 c6 c7 cR : Addr} (T : Errs P K mg c0 c1 c2 c3 c4 c5 c6 c7 cR) {i : Nat} {a : Addr} (h : [c0, c1, c2, c3, c4, c5, c6, c7][i]? = some a) : L2.ExcC K a := by
  have hi := (List.getElem?_eq_some_iff.mp h).1
  simp only [List.length_cons, List.length_nil] at hi
  match i, hi, h with
  | 0, _, h => cases h; exact T.r0.ex
  | 1, _, h => cases h; exact T.r1.ex
  | 2, _, h => cases h; exact T.r2.ex
  | 3, _, h => cases h; exact T.r3.ex
  | 4, _, h => cases h; exact T.r4.ex
  | 5, _, h => cases h; exact T.r5.ex
  | 6, _, h => cases h; exact T.r6.ex
  | 7, _, h => cases h; exact T.r7.ex
theorem lookE {f : Str} {v : V} : List.lookup f [(f, v)] = some v := by simp [List.lookup]
end Sg

/-! raise C(e), raise C() of such classes; except (A, B) as e, the exception kept behind the suite. -/
namespace Sx
open PySem PySem.Spec PyProof.Rows L2
section
variable {X : Cx} {C : Addr} {f x : Str} {p pos : Pos} {e : Expr} {ta : TE}
/-- the heap without one object -/
theorem lone {h' : Heap} {e : Addr} : ∃ G : Heap, (∀ b, b ≠ e → G.get? b = h'.get? b) ∧ G.get? e = none := by
  obtain ⟨G, g1, g2⟩ := restrict h' fun b => decide (b ≠ e)
  exact ⟨G, fun b hb => g1 b (decide_eq_true hb), g2 e (by simp)⟩
def tMk1 (C : Addr) (f : Str) (ta : TE) : L2.St → Hp → XK → Prop := fun σ H Q => ta σ H fun v H1 => ∀ d, H1 d = none → Q (.ref C) (some d) (upd H1 d (.xd [(f, v)]))
theorem pmk_ex1 (M : MkF X.prog X.K X.mg C f (fun v => ⟨[v], []⟩)) (rz : Raises X (.ref C)) (hr : Room 1 X.A) (gC : X.mg x = some (.ref C)) (kC : PySem.W.keepIn X.K (.ref C) = true) (hg : Gl X x) (he : PE X e ta)
    (hs : starEach [e] X.env = (false, eval e X.env) :: starEach [] X.env := by rfl) (hdb : (x == ("__debug__" : Str)) = false := by decide) : PMk X (.Call (.Name x p) [e] [] pos) (tMk1 C f ta) := by
  intro pins s σ H Q I h
  refine wpAny_Call_Name_kw (ld_glob I hg gC ?_ hdb)
  refine PySem.W.callWith_K (h₀ := X.base) I.ok.mod.kin kC ?_ hs (by rfl)
  rw [hs]
  refine Calls.spliced_cons (thn (he.run pins s σ H _ I h) fun u s1 ⟨v, H1, I1, r1, q1⟩ => ?_)
  refine Calls.spliced_nil ⟨I1.kIn, ?_⟩
  refine wpAny_call (run_exF M hr I1 r1 fun h' tk e d t1 k ne nd n e2 d2 => ?_)
  obtain ⟨G, gk, ge⟩ := lone (h' := h') (e := e)
  have old : ∀ b o, s1.heap.get? b = some o → G.get? b = some o := fun b o q => (gk b fun z => by rw [z, ne] at q; cases q).trans (k b o q)
  have ob : ObjOk X.prog X.w (upd H1 d (.xd [(f, v)])) G d (.xd [(f, v)]) := by
    refine ⟨_, d2.at fun o q => (gk d n).trans q, fun y => ?_⟩
    rw [lookup_put]
    by_cases hy : y = f
    · rw [if_pos hy, if_pos hy]; exact r1
    · rw [if_neg hy, if_neg hy]; exact True.intro
  have J : Inv X pins σ (upd H1 d (.xd [(f, v)])) { s1 with heap := G, toks := tk } := I1.laidN old nd (I1.hok.gone nd) ob
  refine ⟨e, _, _, { s1 with heap := G, toks := tk }, _, .ref C, some d, rfl, J, fun b o q => ?_, ge, e2, ⟨rfl, rfl⟩, rfl, rfl, ?_, rfl, I1.bare, rz, q1 d (I1.hok.gone nd)⟩
  · have q : G.get? b = some o := q
    by_cases hb : b = e
    · rw [hb, ge] at q; cases q
    · exact (gk b hb).symm.trans q
  · rw [upd_ne (Ne.symm n)]
    exact I1.hok.gone ne
def tMk0 (C : Addr) : L2.St → Hp → XK → Prop := fun _ H Q => Q (.ref C) none H
theorem pmk_ex0 (M : MkN X.prog X.K X.mg C) (rz : Raises X (.ref C)) (hr : Room 1 X.A) (gC : X.mg x = some (.ref C)) (kC : PySem.W.keepIn X.K (.ref C) = true) (hg : Gl X x)
    (hdb : (x == ("__debug__" : Str)) = false := by decide) : PMk X (.Call (.Name x p) [] [] pos) (tMk0 C) := by
  intro pins s σ H Q I h
  refine wpAny_Call_Name_kw (ld_glob I hg gC ?_ hdb)
  refine PySem.W.callWith_K0 I.kIn kC (wpAny_call ?_)
  obtain ⟨mb, b1, b2⟩ := blt_super I.ok
  obtain ⟨h0, g, d, t, os⟩ := s
  refine M X.w X.A h0 g d t os mb _ (by have := hr.dp; omega) I.kIn I.nolimit (I.mod.glob.keeps I.bk) (b1.keeps I.bk) b2 fun h' tk e t1 k e1 e2 => ?_
  have ne : h0.get? e = none := Heap.get?_none_of_le e1
  obtain ⟨G, gk, ge⟩ := lone (h' := h') (e := e)
  have old : ∀ b o, h0.get? b = some o → G.get? b = some o := fun b o q => (gk b fun z => by rw [z, ne] at q; cases q).trans (k b o q)
  refine ⟨e, _, _, ⟨G, g, d, tk, os⟩, H, .ref C, none, rfl, I.kept (t' := tk) old, fun b o q => ?_, ge, e2, ⟨rfl, rfl⟩, rfl, rfl, I.hok.gone ne, rfl, I.bare, rz, h⟩
  have q : G.get? b = some o := q
  by_cases hb : b = e
  · rw [hb, ge] at q; cases q
  · exact (gk b hb).symm.trans q
end
theorem fly_keep {B : Heap} {l : List Env} {a : Addr} {Z : Obj → Prop} {h h' : Heap} (x : HandSPX.FlyingZ B l a Z h) (k : ∀ b o, h.get? b = some o → h'.get? b = some o) : HandSPX.FlyingZ B l a Z h' := by
  obtain ⟨x1, x2, x3, oe, vs, T, oT, ts, y1, y2, y3, y4, y5, y6, y7, y8, y9⟩ := x
  exact ⟨fun b o e => k _ _ (x1 b o e), x2, Heap.FunFrames.of_keeps (fun b o e _ => ⟨o, k b o e, rfl⟩) x3, oe, vs, T, oT, ts, k _ _ y1, y2, y3, y4, y5, y6, k _ _ y7, y8, y9⟩
section
variable {X : Cx} {pins : List (Addr × Obj)} {σ : L2.St} {H : Hp} {s : Shared}
/-- a pinned object that came since the entry is tracked from now on -/
theorem track {a C : Addr} {d : Option Addr} {oe : Obj} {vs : Array Value} (I : Inv X ((a, oe) :: pins) σ H s) (n0 : X.s_0.heap.get? a = none) (np : ∀ q ∈ X.pn ++ pins, q.1 ≠ a) (hz : Zc (.ref C) d oe) (hv : oe.data = .fields vs) : Inv X pins σ (upd H a (exV a C d)) s := by
  obtain ⟨ea, na, nl, nf, nc⟩ := I.pin (a, oe) (List.mem_append_right _ List.mem_cons_self)
  have ea : s.heap.get? a = some oe := ea
  have na : H a = none := na
  have nl : a ≠ X.env.locals := nl
  have sm : ∀ {b : Addr} {o : HO}, H b = some o → b ≠ a := fun q => ne_of_none q na
  have ne0 : ∀ {b : Addr} {o : Obj}, X.s_0.heap.get? b = some o → b ≠ a := fun q z => by rw [z, n0] at q; cases q
  refine ⟨I.ok, I.os, I.bare, ⟨I.base.keep, I.base.slot, fun b o q n hx => ?_, I.base.there, fun b xs q => ?_, fun b o u q => ?_, fun b ps q => ?_⟩, I.loc, I.cell, ?_, fun y c q => ?_, fun q hq => ?_, fun b u q => ?_, I.len⟩
  · rw [upd_ne (ne0 q)]
    exact I.base.free b o q n hx
  · have z := I.base.tups b xs q
    rw [upd_ne (sm z)]
    exact z
  · have z := I.base.frzs b o u q
    rw [upd_ne (sm z)]
    exact z
  · obtain ⟨m, z⟩ := I.base.tbls b ps q
    exact ⟨m, by rw [upd_ne (sm z)]; exact z⟩
  · rw [upd_ne nl.symm]
    exact I.free
  · have hc : c ≠ a := fun z => by
      obtain ⟨v, o, ho, hd⟩ := I.cell y c q
      rw [z, ea] at ho
      cases ho
      rw [hv] at hd
      cases hd
    rw [upd_ne hc]
    exact I.freeC y c q
  · obtain ⟨z1, z2, z3, z4, z5⟩ := I.pin q (by
      rcases List.mem_append.mp hq with w | w
      · exact List.mem_append_left _ w
      · exact List.mem_append_right _ (List.mem_cons_of_mem _ w))
    exact ⟨z1, by rw [upd_ne (np q hq)]; exact z2, z3, z4, z5⟩
  · by_cases hb : b = a
    · subst hb
      rw [upd_same] at q
      cases q
      exact exV_ok ea hz hv
    · rw [upd_ne hb] at q
      exact (I.hok b u q).stay (fun c v _ z => z) (fun c z => by rw [upd_ne (sm z)]; exact z) fun c xs z => by rw [upd_ne (sm z)]; exact z
/-- behind the suite its exception stays pinned -/
theorem unsuiteK {a : Addr} {oe : Obj} {pn' : List (Addr × Obj)} (I : Inv (X.suite a ((a, oe) :: (X.pn ++ pins))) pn' σ H s) (ok : X.Ok) : Inv X ((a, oe) :: pins) σ H s :=
  ⟨ok, I.os, I.bare, I.base, I.loc, I.cell, I.free, I.freeC, fun p hp => I.pin p (by
    refine List.mem_append_left _ ?_
    rcases List.mem_append.mp hp with z | z
    · exact List.mem_cons_of_mem _ (List.mem_append_left _ z)
    · rcases List.mem_cons.mp z with z | z
      · rw [z]; exact List.mem_cons_self
      · exact List.mem_cons_of_mem _ (List.mem_append_right _ z)), I.hok, I.len⟩
end
end Sx
namespace Sx
open PySem PySem.Spec PyProof.Rows L2
/-- the wish of 'except (A, B) as n: ..' (slot i is n's): behind the suite the exception is an object that is known -/
def wTwo (K : PySem.W.Frag) (c1 c2 : Value) (i : Nat) (ts : Addr → TS) (D : Ends) : WX := fun cls d σ H => ∃ C : Addr, cls = .ref C ∧ PySem.W.exmAny K cls [c1, c2] = some true ∧
  ∀ a, H a = none → ts a { nx := fun σ' H' => D.nx (σ'.set i none) (upd H' a (exV a C d)), rt := fun _ _ => False, bk := fun _ _ => False, ct := fun _ _ => False } (σ.set i (some (.ref a))) H
section
variable {X : Cx} {x1 x2 n : Str} {c1 c2 : Value} {i kk : Nat} {body suite : List Stmt} {b₀ : Stmt} {p1 p2 p3 pos pos' : Pos} {tb : WX → TS} {ts : Addr → TS}
theorem ld_name {a : Addr} {oe : Obj} {pn : List (Addr × Obj)} {σ : L2.St} {H : Hp} {s : Shared} {x : Str} {c : Value} {np : Pos} {Q : Value → Shared → Prop} {E : Value → Shared → Prop} (hc : Names X x c) (I : Inv (X.suite a ((a, oe) :: pn)) [] σ H s) (q : Q c s) :
    wpAny (model X.prog X.w) (X.A.mark (some (.ref a))) (eval (.Name x np) X.env) Q E s := by
  rcases hc with ⟨g, nd, m | ⟨m, v, nn⟩⟩
  · exact ld_glob (X := X.suite a ((a, oe) :: pn)) I g m q nd
  · exact ld_blt (X := X.suite a ((a, oe) :: pn)) I g m v q nn nd
theorem ps_try_two (hex : X.ex = []) (hs : X.stack = X.env :: X.outer) (hf : X.env.frame = some X.env.locals) (hN : X.N.Nodup) (hi : X.N[i]? = some n) (hln : X.env.kindOf n = some .local) (h1 : Names X x1 c1) (h2 : Names X x2 c2)
    (hb : ∀ (W : WX) (pn : List (Addr × Obj)) (xe : Value → Shared → Prop), Takes (X.tr pn xe) W → PassesOwn (model X.prog X.w) X.A X.env xe → PSs (X.tr pn xe) body (tb W))
    (hsu : ∀ (a : Addr) (oe : Obj) (cls : Value) (d : Option Addr) (pn : List (Addr × Obj)), Zc cls d oe → (∃ vs, oe.data = .fields vs) → PSs (X.suite a ((a, oe) :: pn)) (b₀ :: suite) (ts a)) :
    PS X (.Try body [.ExceptHandler (some (.Tuple [.Name x1 p1, .Name x2 p2] kk p3)) (some n) (b₀ :: suite) pos'] [] [] pos) (fun D σ H => tb (wTwo X.K c1 c2 i ts D) D σ H) := by
  refine ⟨fun pins s0 σ0 H0 D I0 h0 => wpAny_Try_except ?_⟩
  have ok := I0.ok
  have frm : X.A.frames = some (X.env :: X.outer) := by rw [ok.frames, hs]
  let md := model X.prog X.w
  let hd : List ExceptHandler := [.ExceptHandler (some (.Tuple [.Name x1 p1, .Name x2 p2] kk p3)) (some n) (b₀ :: suite) pos']
  let XC : Value → Shared → Prop := fun e sa => wpAny md X.A (noteFrame e X.env) (fun _ sb => wpAny md X.A (setFlight e none) (fun _ sc => wpAny md X.A (handleBy e X.env hd) (SP X pins D) X.xe sc) X.xe sb) X.xe sa
  have tk : Takes (X.tr (X.pn ++ pins) XC) (wTwo X.K c1 c2 i ts D) := by
    rintro u s' ⟨a, B, sI, pins', σ, H, cls, d, rfl, J0, nb, up, sky, na, os, ag, C, rfl, hm, hts⟩
    have J := J0.ofTry (pins := pins) ok
    have sky : Sky B (X.env :: X.outer) a (Zc (.ref C) d) X.env.locals s'.heap := by rw [← hs]; exact sky
    show wpAny md X.A (noteFrame (.ref a) X.env) _ _ _
    refine Sky.land Zc.steady frm hf sky fun h3 f3 u3 => ?_
    have J3 : Inv X pins σ H { s' with heap := h3 } := J.landed nb f3.1 (up.trans u3) os ag
    obtain ⟨oe3, vs3, g3, z3, d3⟩ := f3.there
    have nfr : a ∉ frs (X.env :: X.outer) := fun hm => by
      obtain ⟨_, o', e', hnf⟩ := f3.2.2.1.mem hm
      rw [g3] at e'
      cases e'
      exact hnf _ d3
    have inF : ∀ {b : Addr}, b = X.env.locals ∨ b ∈ X.fs → b ∈ frs (X.env :: X.outer) := fun {b} hb => by
      rcases hb with z | z
      · exact List.mem_filterMap.mpr ⟨X.env, List.mem_cons_self, by rw [hf, z]⟩
      · obtain ⟨v, hv, q⟩ := List.mem_filterMap.mp z
        exact List.mem_filterMap.mpr ⟨v, List.mem_cons_of_mem _ hv, q⟩
    have ofF : ∀ {b : Addr}, b ∈ frs (X.env :: X.outer) → b = X.env.locals ∨ b ∈ X.fs := fun {b} hb => by
      obtain ⟨v, hv, q⟩ := List.mem_filterMap.mp hb
      rcases List.mem_cons.mp hv with z | z
      · rw [z, hf] at q
        exact .inl (Option.some.inj q).symm
      · exact .inr (List.mem_filterMap.mpr ⟨v, z, q⟩)
    have nL : a ≠ X.env.locals := fun z => nfr (inF (.inl z))
    have nF : a ∉ X.fs := fun z => nfr (inF (.inr z))
    have gone : ∀ o, sI.heap.get? a = some o → False := fun o q => by
      have z := nb a o q (by rw [hs]; exact nfr)
      rw [f3.2.1] at z
      cases z
    have n0 : X.s_0.heap.get? a = none := by
      cases q : X.s_0.heap.get? a with
      | none => rfl
      | some o =>
        obtain ⟨o', q'⟩ := J.base.there a o q (by rw [hex]; simp)
        exact (gone _ q').elim
    have np : ∀ q ∈ X.pn ++ pins, q.1 ≠ a := fun q hq z => by
      obtain ⟨e, _⟩ := J0.pin q (List.mem_append_left _ hq)
      rw [z] at e
      exact gone _ e
    have S3 := J3.suite g3 d3 na nL nF
    have kp : ∀ b o, h3.get? b = some o → (h3.push { cls := .type "tuple", data := .seq [c1, c2].toArray }).get? b = some o := fun _ _ z => Heap.get?_push_of_some _ z
    have LT : PySem.W.Looks md h3 (typeOf (.ref a)) (.ref C) := fun A Q E s k q => wpAny_typeOf_ref (k _ _ g3) (by rw [z3.1]; exact q)
    refine wpAny_handleBy_cons (codeAny_handlers_test ?_) (by intro q; cases q)
    refine wpAny_Tuple (wpAny_items_cons (ld_name h1 S3 (wpAny_items_cons (ld_name h2 S3 (wpAny_items_nil ⟨by size_fits, ?_⟩)))))
    refine (PySem.W.exm_tup2 (J3.kIn.keeps kp) (LT.keeps kp) (Heap.get?_push_size h3 rfl) hm).here ?_
    refine codeAny_handlers_suite_as ?_
    refine HandSPX.lands_againZ (fly_keep f3 kp) fun h5 f5 u5 => ?_
    have J5 : Inv X pins σ H { s' with heap := h5 } := J.landed nb f5.1 (((up.trans u3).trans fun b o e _ => ⟨o.slots, kp b o e⟩).trans u5) os ag
    obtain ⟨oe5, vs5, g5, z5, d5⟩ := f5.there
    refine store_ok (X := X.suite a ((a, oe5) :: (X.pn ++ pins))) (v := .ref a) (J5.suite g5 d5 na nL nF) hN hi (.inl hln) rfl (fun s6 S6 => ?_) (.inr hln)
    refine wpAny_mono ((hsu a oe5 (.ref C) d (X.pn ++ pins) z5 ⟨_, d5⟩).run [] s6 _ H _ S6 (hts a na)) (fun fl s7 q7 => ?_) fun _ _ z => False.elim z
    cases fl with
    | next =>
      obtain ⟨σ7, H7, S7, q7⟩ := q7
      exact gone_ok (unsuiteK S7 ok) hN hi hln fun s8 J8 => ⟨_, _, track J8 n0 np z5 d5, q7⟩
    | ret u => obtain ⟨_, _, _, _, _, z⟩ := q7; exact z.elim
    | brk => obtain ⟨_, _, _, z⟩ := q7; exact z.elim
    | cont => obtain ⟨_, _, _, z⟩ := q7; exact z.elim
  refine wpAny_mono ((hb _ (X.pn ++ pins) XC tk PassesOwn.looking).run [] s0 σ0 H0 D (I0.toTry _) h0) (fun fl s1 q1 => ?_) fun _ _ z => z
  cases fl with
  | next => obtain ⟨σ', H', J, q⟩ := q1; exact wpAny_execs_nil ⟨_, _, J.ofTry ok, q⟩
  | brk => obtain ⟨σ', H', J, q⟩ := q1; exact ⟨_, _, J.ofTry ok, q⟩
  | cont => obtain ⟨σ', H', J, q⟩ := q1; exact ⟨_, _, J.ofTry ok, q⟩
  | ret u => obtain ⟨v, σ', H', J, r, q⟩ := q1; exact ⟨_, _, _, J.ofTry ok, r, q⟩
end
end Sx

/-! is_whole, is_set, check_stars of values of other kinds. -/
namespace Sg
open PySem PySem.Spec PyProof.Rows L2 Gx Sx RZ
/-- what may stand in a tuple: an integer, or something else -/
inductive ElX : V → Option Int → Prop
  | int (i : Int) : ElX (.int i) (some i)
  | bl (b : Bool) : ElX (.bl b) none
  | str (z : Str) : ElX (.str z) none
def inO (m : Int) : Option Int → Bool
  | some i => inB m i
  | none => false
section
variable {P : Program} {w : World} {K : PySem.W.Frag} {mg : Str → Option Value} {base : Heap}
def spWholeX : Sp := fun vs H Q _ => ∃ (v : V) (o : Option Int) (m : Int), vs = [v, .int m] ∧ ElX v o ∧ Q (.bl (inO m o)) H
theorem ok_wholeX {f : Addr} {fd : FuncData} (F : Fun K "is_whole" "is_whole" sWhole f fd) (mis : mg "isinstance" = none) (mi : mg "int" = none) (mb : mg "bool" = none) : FnOk P w K mg base CX0 1 f fd ["value", "many"] spWholeX := by
  refine F.ok scWhole (fun vs H Q E h => ?_) (fun cdv A outer s H vs Q E hr h => ?_)
  · obtain ⟨v, o, m, rfl, _⟩ := h
    rfl
  · obtain ⟨v, o, m, rfl, he, q⟩ := h
    refine ⟨_, pss_one (ps_ret (pe_and (pe_callB call_isi (by rfl) mis (by decide +kernel) (pa_cons (pv 0) (pa_cons (pe_bltn (v := .ty "int") (u := .type "int") (by rfl) mi (by decide +kernel) rfl) pa_nil)))
      (pe_and (pe_not (pe_callB call_isi (by rfl) mis (by decide +kernel) (pa_cons (pv 0) (pa_cons (pe_bltn (v := .ty "bool") (u := .type "bool") (by rfl) mb (by decide +kernel) rfl) pa_nil))))
        (pe_one (pe_chain op_le op_lt pe_int (pv 0) (pv 1)))))), ?_⟩
    cases he with
    | int i =>
      refine ⟨_, rfl, _, _, _, _, _, rfl, .ty "int", .base (.int i), kit_ty (by decide +kernel), true, rfl, ite_tt ?_⟩
      refine ⟨_, rfl, _, _, _, _, _, rfl, .ty "bool", .base (.int i), kit_ty (by decide +kernel), false, rfl, true, rfl, ite_tt ?_⟩
      refine ⟨_, rfl, _, _, rfl, rfl, _, rfl, ?_⟩
      have q : Q (.bl (decide (0 ≤ i) && decide (i < m))) H := q
      by_cases h0 : 0 ≤ i
      · rw [decide_eq_true h0, Bool.true_and] at q
        rw [decide_eq_true h0]
        exact ite_tt ⟨_, rfl, _, _, rfl, rfl, q⟩
      · rw [decide_eq_false h0, Bool.false_and] at q
        rw [decide_eq_false h0]
        exact ite_ff q
    | bl b =>
      refine ⟨_, rfl, _, _, _, _, _, rfl, .ty "int", .base (.bl b), kit_ty (by decide +kernel), true, rfl, ite_tt ?_⟩
      exact ⟨_, rfl, _, _, _, _, _, rfl, .ty "bool", .base (.bl b), kit_ty (by decide +kernel), true, rfl, false, rfl, ite_ff q⟩
    | str z => exact ⟨_, rfl, _, _, _, _, _, rfl, .ty "int", .base (.str z), kit_ty (by decide +kernel), false, rfl, ite_ff q⟩
/-- what may stand where a set should: a tuple of integers, or something else -/
inductive ItemX (K : PySem.W.Frag) (H : Hp) : V → Option (List Int) → Prop
  | non : ItemX K H .non none
  | int (i : Int) : ItemX K H (.int i) none
  | lst {a : Addr} {xs : List V} (h : SqL K H a xs) : ItemX K H (.ref a) none
  | odd {a : Addr} {v : V} (e : ElX v none) (h : SqT K H a [v]) : ItemX K H (.ref a) none
  | tup {a : Addr} {ns : List Int} (h : SqT K H a (ns.map V.int)) (hl : ns.length ≤ 60) : ItemX K H (.ref a) (some ns)
theorem ItemX.same {H H' : Hp} {v : V} {o : Option (List Int)} (h : ItemX K H v o) (s : Same H H') : ItemX K H' v o := by
  cases h with
  | non => exact .non
  | int i => exact .int i
  | lst h => exact .lst (s.seq h)
  | odd e h => exact .odd e (same_tup s h)
  | tup h l => exact .tup (same_tup s h) l
def setO (m : Int) : Option (List Int) → Bool
  | some ns => setB m ns
  | none => false
def spSetX (K : PySem.W.Frag) : Sp := fun vs H Q _ => ∃ (v : V) (o : Option (List Int)) (m : Int), vs = [v, .int m] ∧ ItemX K H v o ∧ ∀ H', Same H H' → Q (.bl (setO m o)) H'
theorem ok_setX {f fW : Addr} {fd fdW : FuncData} (F : Fun K "is_set" "is_set" sSet f fd) (GW : FnOk P w K mg base CX0 1 fW fdW ["value", "many"] spWholeX) (gW : mg "is_whole" = some (.ref fW)) (kW : PySem.W.keepIn K (.ref fW) = true) (bW : Binds K fdW ["value", "many"] [])
    (mis : mg "isinstance" = none) (mt : mg "tuple" = none) (mal : mg "all" = none) (mz : mg "zip" = none) : FnOk P w K mg base CX0 2 f fd ["value", "many"] (spSetX K) := by
  refine F.ok scSet (fun vs H Q E h => ?_) (fun cdv A outer s H vs Q E hr h => ?_)
  · obtain ⟨v, o, m, rfl, _⟩ := h
    rfl
  · obtain ⟨v, o, m, rfl, hv, k⟩ := h
    refine ⟨_, pss_cons (ps_if (pt_not (pt_val (pe_callB call_isi (by rfl) mis (by decide +kernel) (pa_cons (pv 0) (pa_cons (pe_bltn (v := .ty "tuple") (u := .type "tuple") (by rfl) mt (by decide +kernel) rfl) pa_nil))))) (pss_one (ps_ret pe_bl)) pss_nil)
      (pss_cons (ps_if (pt_not (pt_val (pe_callB (id := "all") (cr_all rfl) (by rfl) mal (by decide +kernel) (pa_cons (pe_lc (own := [("tie", 2)]) (g := gName 2) (tt := tYes) (by rfl) scSet.nd (pi_tup (pv 0)) (blkOk_by (own := [("tie", 2)]) (N := ["value", "many", "tie", "above"]) (sc := defScope sSet) (by decide +kernel))
          (fun _ _ _ _ _ => pg_name (i := 2) scSet.nd rfl (Or.inl rfl)) (fun _ _ _ _ _ => pts_nil) (fun _ _ _ _ _ => pe_call GW hr (by rfl) gW kW bW .nil pass0 (pa_cons (pv 2) (pa_cons (pv 1) pa_nil)))) pa_nil)))) (pss_one (ps_ret pe_bl)) pss_nil)
      (pss_one (ps_ret (pe_callB (id := "all") (cr_all rfl) (by rfl) mal (by decide +kernel) (pa_cons (pe_lc (own := [("tie", 2), ("above", 3)]) (g := gTup K 2 (gCons (gName 2) (gCons (gName 3) gNil))) (tt := tYes) (by rfl) scSet.nd (pi_zipA (by rfl) mz (pa_cons (pv 0) (pa_cons (pe_slice sl_tupA (pv 0) (po_some pe_int) po_none) pa_nil))) (blkOk_by (own := [("tie", 2), ("above", 3)]) (N := ["value", "many", "tie", "above"]) (sc := defScope sSet) (by decide +kernel))
          (fun _ _ _ _ _ => pg_tup rfl (pgs_cons (pg_name (i := 2) scSet.nd rfl (Or.inl rfl)) (pgs_cons (pg_name (i := 3) scSet.nd rfl (Or.inl rfl)) pgs_nil))) (fun _ _ _ _ _ => pts_nil) (fun _ _ _ _ _ => pe_cmpR op_lt (pv 2) (pv 3) (nomark _))) pa_nil))))), ?_⟩
    cases hv with
    | non => exact ⟨_, rfl, _, _, _, _, _, rfl, .ty "tuple", .base .non, kit_ty (by decide +kernel), false, rfl, ite_tt (k _ (Same.refl _))⟩
    | int i => exact ⟨_, rfl, _, _, _, _, _, rfl, .ty "tuple", .base (.int i), kit_ty (by decide +kernel), false, rfl, ite_tt (k _ (Same.refl _))⟩
    | lst h => exact ⟨_, rfl, _, _, _, _, _, rfl, .ty "tuple", tyx_lst h, kit_ty (by decide +kernel), false, rfl, ite_tt (k _ (Same.refl _))⟩
    | @odd a v he h =>
      refine ⟨_, rfl, _, _, _, _, _, rfl, .ty "tuple", tyx_tup h, kit_ty (by decide +kernel), true, rfl, ite_ff ?_⟩
      refine ⟨_, rfl, a, rfl, ⟨_, h⟩, fun D nD => ?_⟩
      refine lc_tup (K := K) (a := a) (xs := [v]) (fun i H' => Same H H' ∧ H' D = some (.lst (([false].take i).map V.bl))) ⟨same_new nD, upd_same⟩ (fun i H' _ hp => same_tup hp.1 h) (fun i x H' hx hp => ?_) (fun H' hp => ?_)
      · obtain ⟨sm, eD⟩ := hp
        have hi := (List.getElem?_eq_some_iff.mp hx).1
        obtain rfl : i = 0 := by simpa using hi
        cases hx
        refine ⟨rfl, tyes_ite ⟨_, rfl, _, rfl, v, none, m, rfl, he, ?_⟩⟩
        exact ⟨_, eD, by show 0 < sizeLine; decide, fun b o e => by rw [upd_ne (ne_of_none e nD)]; exact sm b o e, by rw [upd_same]; rfl⟩
      obtain ⟨s1, e1⟩ := hp
      exact ⟨D, [false], rfl, SqL.of e1, _, rfl, ite_tt (k _ s1)⟩
    | @tup a ns hS hl =>
      refine ⟨_, rfl, _, _, _, _, _, rfl, .ty "tuple", tyx_tup hS, kit_ty (by decide +kernel), true, rfl, ite_ff ?_⟩
      refine ⟨_, rfl, a, rfl, ⟨_, hS⟩, fun D nD => ?_⟩
      refine lc_tup (K := K) (a := a) (xs := ns.map V.int) (fun i H' => Same H H' ∧ H' D = some (.lst ((ns.take i).map fun t => V.bl (inB m t)))) ⟨same_new nD, upd_same⟩ (fun i H' _ hp => same_tup hp.1 (hS)) (fun i x H' hx hp => ?_) (fun H' hp => ?_)
      · obtain ⟨sm, eD⟩ := hp
        obtain ⟨t, rfl, ht⟩ : ∃ t, x = V.int t ∧ ns[i]? = some t := by
          rw [List.getElem?_map] at hx
          cases e : ns[i]? with
          | none => rw [e] at hx; cases hx
          | some u => rw [e] at hx; exact ⟨u, (Option.some.inj hx).symm, rfl⟩
        have hi := (List.getElem?_eq_some_iff.mp ht).1
        refine ⟨rfl, tyes_ite ⟨_, rfl, _, rfl, _, some t, m, rfl, .int t, ?_⟩⟩
        refine ⟨_, eD, ?_, fun b o e => ?_, ?_⟩
        · rw [List.length_map, List.length_take]; exact small1000 (by omega)
        · rw [upd_ne (ne_of_none e nD)]
          exact sm b o e
        · rw [upd_same, List.take_add_one, ht, List.map_append]
          rfl
      obtain ⟨s1, e1⟩ := hp
      rw [List.length_map, List.take_length] at e1
      refine ⟨D, ns.map (inB m), rfl, SqL.of (by rw [List.map_map]; exact e1), _, rfl, ?_⟩
      have eb : (ns.map (inB m)).all id = ns.all (inB m) := by rw [List.all_map]; rfl
      rw [eb]
      cases hb : ns.all (inB m) with
      | false =>
        have : setO m (some ns) = false := by show setB m ns = false; unfold setB; rw [hb, Bool.false_and]
        rw [this] at k
        exact ite_tt (k _ s1)
      | true =>
        have eS : setO m (some ns) = ((List.range (ns.length - 1)).map (ltB ns)).all id := by show setB m ns = _; unfold setB; rw [hb, Bool.true_and]
        rw [eS] at k
        refine ite_ff ?_
        refine ⟨_, rfl, _, rfl, 1, rfl, a, _, rfl, same_tup s1 (hS), ?_⟩
        refine ⟨fun hw => ?_, fun nw p np => ?_⟩
        · have e := HT.sIx_nat (ns.map V.int).length 0 1
          have hw := hw.1
          rw [show (some (1 : Int)) = some ((1 : Nat) : Int) from rfl, e, List.length_map] at hw
          have hn : ns = [] := List.length_eq_zero_iff.mp (by omega)
          subst hn
          refine ⟨a, a, _, _, rfl, .inr ⟨same_tup s1 hS, same_tup s1 hS, fun D2 nD2 => ?_⟩⟩
          refine lc_it (walk_zipT (n := 0) (xs := []) (ys := []) (by rfl)) (fun i H3 => Same H' H3 ∧ H3 D2 = some (.lst [])) ⟨same_new nD2, upd_same⟩ (fun i H3 _ q => ⟨same_tup (s1.trans q.1) hS, same_tup (s1.trans q.1) hS⟩) (fun i x H3 H4 hi => absurd hi (by simp)) (fun H3 q => ?_)
          exact ⟨D2, [], rfl, SqL.of q.2, k _ (s1.trans q.1)⟩
        · have hne : ns ≠ [] := fun z => nw (by subst z; exact ⟨rfl, rfl⟩)
          rw [cut1 hne]
          have s2 := s1.trans (same_new (o := .tup ((ns.drop 1).map V.int)) np)
          have hp : SqT K (upd H' p (.tup ((ns.drop 1).map V.int))) p ((ns.drop 1).map V.int) := SqT.of upd_same
          generalize upd H' p (.tup ((ns.drop 1).map V.int)) = H2 at s2 hp ⊢
          refine ⟨a, p, _, _, rfl, .inr ⟨same_tup s2 (hS), hp, fun D2 nD2 => ?_⟩⟩
          refine lc_it (walk_zipT (n := ns.length - 1) (xs := ns.map V.int) (ys := (ns.drop 1).map V.int) (by rw [List.length_map, List.length_map, List.length_drop]; omega)) (fun i H' => Same H2 H' ∧ H' D2 = some (.lst ((List.range i).map fun j => V.bl (ltB ns j)))) ⟨same_new nD2, upd_same⟩ (fun i H' _ q => ⟨same_tup q.1 ((same_tup s2 hS)), same_tup q.1 (hp)⟩) (fun i x H3 H4 hi q hy => ?_) (fun H3 q => ?_)
          · obtain ⟨sm, eD⟩ := q
            obtain ⟨T, x1, x2, rfl, nT, rfl, f1, f2⟩ := hy
            have g1 : ns[i]? = some ns[i] := List.getElem?_eq_getElem (by omega)
            have g2 : ns[i + 1]? = some ns[i + 1] := List.getElem?_eq_getElem (by omega)
            have f1 : (ns.map V.int)[i]? = some x1 := f1
            have f2 : ((ns.drop 1).map V.int)[i]? = some x2 := f2
            rw [List.getElem?_map, g1] at f1
            rw [List.getElem?_map, List.getElem?_drop, Nat.add_comm 1 i, g2] at f2
            cases f1
            cases f2
            have nDT : D2 ≠ T := ne_of_none eD nT
            refine ⟨T, _, rfl, .inl (.inl upd_same), rfl, _, _, rfl, _, _, rfl, rfl, rfl, tyes_ite ?_⟩
            refine ⟨_, rfl, _, rfl, _, _, rfl, rfl, ?_⟩
            refine ⟨_, by rw [upd_ne nDT]; exact eD, ?_, fun b o e => ?_, ?_⟩
            · rw [List.length_map, List.length_range]; exact small1000 (by omega)
            · rw [upd_ne (ne_of_none e nD2), upd_ne (ne_of_none (sm _ _ e) nT)]
              exact sm b o e
            · rw [upd_same, List.range_succ, List.map_append]
              have : ltB ns i = decide (ns[i] < ns[i + 1]) := by unfold ltB; rw [g1, g2]
              show some (HO.lst (_ ++ [V.bl (decide (ns[i] < ns[i + 1]))])) = some (HO.lst (_ ++ [V.bl (ltB ns i)]))
              rw [this]
          obtain ⟨s3, e3⟩ := q
          refine ⟨D2, (List.range (ns.length - 1)).map (ltB ns), rfl, SqL.of (by rw [List.map_map]; exact e3), ?_⟩
          exact k _ (s2.trans s3)
end
end Sg

/-! check_stars and Web(..) of values of any kind. -/
namespace Sg
open PySem PySem.Spec PyProof.Rows L2 Gx Sx RZ
/-- why an item cannot stand behind such ties and such a star -/
def badAt (flat pv : List Int) : Option (List Int) → Bool
  | none => true
  | some s => !setB 12 s || s.isEmpty || HT.lexLt s pv || s.any fun t => decide (2 ≤ flat.count t)
theorem setB_ltm {m : Int} {s : List Int} (h : setB m s = true) : ∀ (j i : Nat) (x y : Int), i < j → s[i]? = some x → s[j]? = some y → x < y := by
  intro j
  induction j with
  | zero => intro i x y hi; omega
  | succ j ih =>
    intro i x y hi ex ey
    have hj := (List.getElem?_eq_some_iff.mp ey).1
    have gj : s[j]? = some s[j] := List.getElem?_eq_getElem (by omega)
    unfold setB at h
    rw [Bool.and_eq_true, List.all_map] at h
    have hl := List.all_eq_true.mp h.2 j (List.mem_range.mpr (by omega))
    simp only [Function.comp, id] at hl
    unfold ltB at hl
    rw [gj, ey] at hl
    have hl : s[j] < y := of_decide_eq_true hl
    by_cases e : i = j
    · subst e
      rw [gj] at ex
      cases ex
      exact hl
    · exact Int.lt_trans (ih i x s[j] (by omega) ex gj) hl
theorem setB_take {m : Int} {s : List Int} (h : setB m s = true) {j : Nat} {t : Int} (e : s[j]? = some t) : (s.take j).count t = 0 := by
  refine List.count_eq_zero_of_not_mem fun hm => ?_
  obtain ⟨i, hi, ei⟩ := List.mem_iff_getElem.mp hm
  have hi2 : i < j := by rw [List.length_take] at hi; omega
  have := setB_ltm h j i t t hi2 (by rw [List.getElem_take] at ei; exact List.getElem?_eq_some_iff.mpr ⟨_, ei⟩) e
  omega
theorem setB_count {m : Int} {s : List Int} (h : setB m s = true) (t : Int) : s.count t ≤ 1 := by
  by_cases hm : t ∈ s
  · obtain ⟨j, hj, e⟩ := List.mem_iff_getElem.mp hm
    have e1 : s = s.take j ++ (t :: s.drop (j + 1)) := by
      have := List.take_append_drop j s
      rw [List.drop_eq_getElem_cons hj, e] at this
      exact this.symm
    have z1 := setB_take h (List.getElem?_eq_some_iff.mpr ⟨hj, e⟩)
    have z2 : (s.drop (j + 1)).count t = 0 := by
      refine List.count_eq_zero_of_not_mem fun hm2 => ?_
      obtain ⟨i, hi, ei⟩ := List.mem_iff_getElem.mp hm2
      rw [List.getElem_drop] at ei
      have hi3 : j + 1 + i < s.length := by rw [List.length_drop] at hi; omega
      have := setB_ltm h (j + 1 + i) j t t (by omega) (List.getElem?_eq_some_iff.mpr ⟨hj, e⟩) (List.getElem?_eq_some_iff.mpr ⟨hi3, ei⟩)
      omega
    rw [e1, List.count_append, List.count_cons_self, z1, z2]
    omega
  · rw [List.count_eq_zero_of_not_mem hm]; omega
theorem badAt_some (flat pv s : List Int) : badAt flat pv (some s) = (!setB 12 s || s.isEmpty || HT.lexLt s pv || s.any fun t => decide (2 ≤ flat.count t)) := rfl
/-- a tie lacks below the greatest -/
def lackB (flat : List Int) : Bool := inV (.int 0) (cutV ((cntOf flat).map V.int) none (some ((12 : Int) - (((cntOf flat).count 0 : Nat) : Int))))
def judgeFrom : Nat → List Int → List Int → List (Option (List Int)) → Option Nat
  | n, flat, _, [] => if lackB flat then some n else none
  | n, flat, pv, it :: r => if badAt flat pv it then some n else judgeFrom (n + 1) (flat ++ it.getD []) (it.getD []) r
def judge (its : List (Option (List Int))) : Option Nat := judgeFrom 0 [] [] its
section
variable {P : Program} {w : World} {K : PySem.W.Frag} {mg : Str → Option Value} {base : Heap}
def Items (K : PySem.W.Frag) (H : Hp) (xs : List V) (its : List (Option (List Int))) : Prop := xs.length = its.length ∧ ∀ (i : Nat) (o : Option (List Int)), its[i]? = some o → ∃ v, xs[i]? = some v ∧ ItemX K H v o
theorem Items.same {H H' : Hp} {xs : List V} {its : List (Option (List Int))} (h : Items K H xs its) (s : Same H H') : Items K H' xs its := ⟨h.1, fun i o e => let ⟨v, h1, h2⟩ := h.2 i o e; ⟨v, h1, h2.same s⟩⟩
/-- the exception that keeps v as its place -/
def EB (E : XK) (c : Addr) (v : V) (H : Hp) : Prop := ∀ d H', Same H H' → H' d = some (.xd [("place", v)]) → E (.ref c) (some d) H'
theorem EB.same {E : XK} {c : Addr} {v : V} {H H' : Hp} (h : EB E c v H) (s : Same H H') : EB E c v H' := fun d H2 s2 e => h d H2 (s.trans s2) e
def NoSeq (K : PySem.W.Frag) (H : Hp) (v : V) : Prop := ∃ t, TyX K H v t ∧ PySem.W.kitAny K t [.type "list", .type "tuple"] = some false
theorem noSeq_of {H : Hp} {v : V} {t : Value} (h : TyX K H v t) (h1 : PySem.W.kitOne K t (.type "list") = some false) (h2 : PySem.W.kitOne K t (.type "tuple") = some false) : NoSeq K H v :=
  ⟨t, h, kitAny_cons (b := false) h1 (fun _ => kitAny_cons (b := false) h2 (fun _ => rfl) fun z => nomatch z) fun z => nomatch z⟩
def spCheckX (K : PySem.W.Frag) (c0 : Addr) : Sp := fun vs H Q E => ∃ v : V, vs = [v] ∧ ((∀ H', Same H H' → NoSeq K H' v) ∧ EB E c0 .non H ∨ ∃ (a : Addr) (xs : List V) (its : List (Option (List Int))), v = .ref a ∧ SqA K H a xs ∧ Items K H xs its ∧ its.length ≤ 100 ∧
  (judge its = none → ∀ H', Same H H' → Q .non H') ∧ ∀ n : Nat, judge its = some n → EB E c0 (.int n) H)
theorem ok_checkX {f fS c0 : Addr} {fd fdS : FuncData} {tk : Tok} (F : Fun K "check_stars" "check_stars" sCheck f fd) (GS : FnOk P w K mg base CX0 2 fS fdS ["value", "many"] (spSetX K)) (gS : mg "is_set" = some (.ref fS)) (kS : PySem.W.keepIn K (.ref fS) = true) (bS : Binds K fdS ["value", "many"] [])
    (R : Row P K mg "BadStars" c0 "place") (bR : PySem.W.subIn K (.ref c0) (.type "BaseException") = some true) (tR : PySem.W.typeIn K (.ref c0) = some (.type "type"))
    (gM : mg "MOST_TIES" = some (.int 12 tk)) (mis : mg "isinstance" = none) (mli : mg "list" = none) (mt : mg "tuple" = none) (men : mg "enumerate" = none) (mle : mg "len" = none) : FnOk P w K mg base (L2.CX P w) 3 f fd ["stars"] (spCheckX K c0) := by
  refine F.okX scCheck (fun vs H Q E h => ?_) (fun cdv A outer s H vs Q E hr h => ?_)
  · obtain ⟨v, rfl, _⟩ := h
    rfl
  · obtain ⟨v, rfl, h⟩ := h
    have hr1 : Room 1 _ := hr.mono (by decide)
    refine ⟨_, pss_cons (ps_if (pt_not (pt_val (pe_callB call_isiT (by rfl) mis (by decide +kernel) (pa_cons (pv 0) (pa_cons (pe_tup (pa_cons (pe_bltn (v := .ty "list") (u := .type "list") (by rfl) mli (by decide +kernel) rfl) (pa_cons (pe_bltn (v := .ty "tuple") (u := .type "tuple") (by rfl) mt (by decide +kernel) rfl) pa_nil))) pa_nil)))))
        (pss_one (ps_raise rfl (takes_of rfl rfl rfl rfl) (pmk_ex1 R.m1 (raises_own bR tR) hr1 R.g R.k (by rfl) pe_non))) pss_nil)
      (pss_cons (ps_set (i := 1) scCheck.nd rfl (.inl rfl) (pe_op op_rep (pe_lst (pa_cons pe_int pa_nil)) (pe_glob (v := .int 12) (by rfl) gM ⟨tk, rfl⟩)))
      (pss_cons (ps_set (i := 2) scCheck.nd rfl (.inl rfl) (pe_tup pa_nil))
      (pss_cons (ps_for (passes_of rfl) rfl (pi_enumA (by rfl) men (pa_cons (pv 0) pa_nil)) (pg_tup rfl (pgs_cons (pg_name (i := 3) scCheck.nd rfl (.inl rfl)) (pgs_cons (pg_name (i := 4) scCheck.nd rfl (.inl rfl)) pgs_nil)))
        (pss_cons (ps_if (PW.pt (pw_or (pt_not (pt_val (pe_call GS hr (by rfl) gS kS bS .nil pass0 (pa_cons (pv 4) (pa_cons (pe_glob (v := .int 12) (by rfl) gM ⟨tk, rfl⟩) pa_nil)))))
            (pw_or (pt_cmpR op_eq (pe_callB call_len_seq (by rfl) mle PySem.boot_len (pa_cons (pv 4) pa_nil)) pe_int (nomark _)) (pw_or1 (pt_cmpR (op_ltT hr.units0) (pv 4) (pv 2) (nomark _))))))
            (pss_one (ps_raise rfl (takes_of rfl rfl rfl rfl) (pmk_ex1 R.m1 (raises_own bR tR) hr1 R.g R.k (by rfl) (pv 3)))) pss_nil)
        (pss_cons (ps_for (passes_of rfl) rfl (pi_tup (pv 4)) (pg_name (i := 5) scCheck.nd rfl (.inl rfl))
          (pss_cons (ps_if (pt_cmpR op_eq (pe_ix ix_list (pv 1) (pv 5) (fun _ _ => rfl)) pe_int (nomark _)) (pss_one (ps_raise rfl (takes_of rfl rfl rfl rfl) (pmk_ex1 R.m1 (raises_own bR tR) hr1 R.g R.k (by rfl) (pv 3)))) pss_nil)
          (pss_one (ps_augS (pv 1) (pv 5) get_list pe_int ip_add set_list))))
        (pss_one (ps_set (i := 2) scCheck.nd rfl (.inl rfl) (pv 4))))))
      (pss_cons (ps_set (i := 6) scCheck.nd rfl (.inl rfl) (pe_op op_sub (pe_glob (v := .int 12) (by rfl) gM ⟨tk, rfl⟩) (pe_bm PySem.F.plainAttrs_list PySem.F.slot_list_count PySem.F.type_list_count mt_lcount (pv 1) (pa_cons pe_int pa_nil))))
      (pss_one (ps_if (pt_cmpR op_in_seq pe_int (pe_slice sl_list (pv 1) po_none (po_some (pv 6))) (by rfl)) (pss_one (ps_raise rfl (takes_of rfl rfl rfl rfl) (pmk_ex1 R.m1 (raises_own bR tR) hr1 R.g R.k (by rfl) (pe_callB call_len_seq (by rfl) mle PySem.boot_len (pa_cons (pv 0) pa_nil))))) pss_nil)))))), ?_⟩
    -- isinstance(stars, (list, tuple))
    refine ⟨_, rfl, by show 2 ≤ sizeLine; decide, fun p np => ?_⟩
    have s0 := same_new (o := .tup [V.ty "list", V.ty "tuple"]) np
    have ep : (upd H p (.tup [V.ty "list", V.ty "tuple"])) p = some (.tup [V.ty "list", V.ty "tuple"]) := upd_same
    generalize upd H p (.tup [V.ty "list", V.ty "tuple"]) = H0 at s0 ep ⊢
    rcases h with ⟨hn, hE⟩ | ⟨a, xs, its, rfl, hS, hX, hlen, q, hE⟩
    · obtain ⟨t, ty, kt⟩ := hn _ s0
      refine ⟨_, p, _, t, _, false, rfl, ep, .cons (.ty "list") (.cons (.ty "tuple") .nil), ty, kt, false, rfl, ite_tt ?_⟩
      exact fun d nd => hE d _ (s0.trans (same_new nd)) upd_same
    obtain ⟨t, ty, kt⟩ := kit2 (hS.same s0)
    refine ⟨_, p, _, t, _, true, rfl, ep, .cons (.ty "list") (.cons (.ty "tuple") .nil), ty, kt, true, rfl, ite_ff ?_⟩
    -- counts, before
    refine ⟨by show 1 ≤ sizeLine; decide, fun z nz => ⟨z, 12, [.int 0], rfl, rfl, upd_same, by decide, by decide, by show 12 ≤ sizeLine; decide, fun D nD => ?_⟩⟩
    replace s0 := s0.trans (same_new (o := .lst [V.int 0]) nz)
    generalize upd H0 z (.lst [V.int 0]) = H1 at s0 nD ⊢
    have nHD : H D = none := s0.free nD
    refine ⟨Nat.zero_le _, fun b nb => ?_⟩
    have eD : (upd (upd H1 D (.lst (List.replicate (12 : Int).toNat [V.int 0]).flatten)) b (.tup [])) D = some (.lst ((cntOf []).map V.int)) := by
      rw [upd_ne (ne_of_none upd_same nb), upd_same]
      rfl
    replace s0 := (s0.trans (same_new (o := .lst (List.replicate (12 : Int).toNat [V.int 0]).flatten) nD)).trans (same_new (o := .tup []) nb)
    have eb : SqT K (upd (upd H1 D (.lst (List.replicate (12 : Int).toNat [V.int 0]).flatten)) b (.tup [])) b (([] : List Int).map V.int) := SqT.of upd_same
    generalize upd (upd H1 D (.lst (List.replicate (12 : Int).toNat [V.int 0]).flatten)) b (.tup []) = H2 at s0 eD eb ⊢
    -- for place, star in enumerate(stars)
    show tFor (iEnumA K (tCons (tVar 0) tNil)) _ _ _ [some (.ref a), some (.ref D), some (.ref b), none, none, none, none] H2
    unfold tFor
    refine enum_var (i := 0) rfl hS s0 (fun J G w hJ => ?_)
    refine for_it w (fun i σ H' => ∃ (b : Addr) (y3 y4 y5 : Option V) (flat pv : List Int), σ = [some (.ref a), some (.ref D), some (.ref b), y3, y4, y5, none] ∧ Same H H' ∧ H' D = some (.lst ((cntOf flat).map V.int)) ∧ SqT K H' b (pv.map V.int) ∧ (∀ t, flat.count t ≤ 2) ∧ judge its = judgeFrom i flat pv (its.drop i))
      ⟨b, none, none, none, [], [], rfl, s0, eD, eb, fun t => by simp, by rw [List.drop_zero]; rfl⟩ (fun i σ H' _ hp => ?_) (fun i x σ H3 H4 hi hp hy => ?_) (fun σ H3 hp => ?_)
    · obtain ⟨_, _, _, _, _, _, _, s, _⟩ := hp
      exact hJ _ s
    · obtain ⟨b, y3, y4, y5, flat, pv, rfl, s3, e3, b3, c2, jd⟩ := hp
      obtain ⟨T, x1, x2, rfl, nT, rfl, f1, f2⟩ := hy
      cases f1
      have f2 : xs[i]? = some x2 := f2
      rw [hX.1] at hi
      have gs : its[i]? = some its[i] := List.getElem?_eq_getElem hi
      rw [List.drop_eq_getElem_cons hi] at jd
      generalize its[i] = it at gs jd
      obtain ⟨v, f3, hit⟩ := hX.2 i it gs
      rw [f3] at f2
      cases f2
      have nDT : D ≠ T := ne_of_none e3 nT
      refine ⟨T, _, rfl, .inl (.inl upd_same), rfl, _, _, rfl, _, _, rfl, rfl, ?_⟩
      replace e3 := same_new (o := .tup [.int (i : Nat), x2]) nT _ _ e3
      replace b3 := same_tup (same_new (o := .tup [.int (i : Nat), x2]) nT) b3
      replace s3 := s3.trans (same_new (o := .tup [.int (i : Nat), x2]) nT)
      generalize upd H3 T (.tup [.int (i : Nat), x2]) = H4 at s3 e3 b3 ⊢
      have fail : badAt flat pv it = true → EB E c0 (.int (i : Nat)) H := fun hb => hE i (by
        rw [jd]
        show (if badAt flat pv it = true then some i else _) = some i
        rw [if_pos hb])
      -- not is_set(star, MOST_TIES) or len(star) == 0 or star < before
      refine ⟨_, rfl, x2, it, 12, rfl, hit.same s3, fun H5 s5 => ?_⟩
      replace e3 := s5 _ _ e3
      replace b3 := same_tup s5 b3
      replace s3 := s3.trans s5
      refine ⟨_, rfl, ?_⟩
      cases hset : setO 12 it with
      | false =>
        refine ite_tt ⟨_, rfl, fun d nd => fail ?_ d _ (s3.trans (same_new nd)) upd_same⟩
        cases it with
        | none => rfl
        | some ns =>
          have hset : setB 12 ns = false := hset
          rw [badAt_some]
          rw [hset]; rfl
      | true =>
        refine ite_ff ?_
        cases hit with
        | non => cases hset
        | int _ => cases hset
        | lst _ => cases hset
        | odd _ _ => cases hset
        | @tup sa st hsa hL =>
        have hsa5 := same_tup s3 hsa
        have hst : setB 12 st = true := hset
        refine ⟨_, rfl, sa, _, rfl, .inr hsa5, rfl, decide (st = []), ?_, ?_⟩
        · rw [List.length_map]
          refine congrArg V.bl (decide_eq_decide.mpr ?_)
          rw [V.int.injEq, ← List.length_eq_zero_iff]
          omega
        by_cases hne : st = []
        · rw [decide_eq_true hne]
          refine ite_tt ⟨_, rfl, fun d nd => fail ?_ d _ (s3.trans (same_new nd)) upd_same⟩
          rw [badAt_some]
          rw [hne]; simp
        rw [decide_eq_false hne]
        refine ite_ff ?_
        refine ⟨_, rfl, _, rfl, sa, b, _, _, rfl, rfl, hsa5, b3, _, rfl, ?_⟩
        cases hlt : HT.lexLt st pv with
        | true =>
          refine ite_tt ⟨_, rfl, fun d nd => fail ?_ d _ (s3.trans (same_new nd)) upd_same⟩
          rw [badAt_some]
          rw [hlt]; simp
        | false =>
        refine ite_ff ?_
        -- for tie in star
        refine ⟨_, rfl, sa, rfl, ⟨_, hsa5⟩, ?_⟩
        refine for_it (walk_tup (xs := st.map V.int)) (fun j σ H' => ∃ (y5 : Option V), σ = [some (.ref a), some (.ref D), some (.ref b), some (.int (i : Nat)), some (.ref sa), y5, none] ∧ Same H H' ∧ H' D = some (.lst ((cntOf (flat ++ st.take j)).map V.int)) ∧ ∀ t ∈ st.take j, flat.count t < 2)
          ⟨y5, rfl, s3, by rw [List.take_zero, List.append_nil]; exact e3, fun t ht => by simp at ht⟩ (fun j σ H' _ hp => ?_) (fun j x σ H6 H7 hj hp hy => ?_) (fun σ H6 hp => ?_)
        · obtain ⟨_, _, s, _⟩ := hp
          exact same_tup s hsa
        · obtain ⟨y5, rfl, s6, e6, low⟩ := hp
          obtain ⟨rfl, hx⟩ := hy
          rw [List.getElem?_map] at hx
          cases ht : st[j]? with
          | none => rw [ht] at hx; cases hx
          | some t =>
            rw [ht] at hx
            cases hx
            have mt := List.mem_of_getElem? ht
            obtain ⟨t0, t1⟩ := setB_mem hst mt
            obtain ⟨n, rfl⟩ := Int.eq_ofNat_of_zero_le t0
            have hn : n < 12 := by omega
            have g := cntOf_get (flat ++ st.take j) hn
            have hc : (flat ++ st.take j).count (n : Int) = flat.count (n : Int) := by rw [List.count_append, setB_take hst ht]; rfl
            have h2 := c2 (n : Int)
            refine ⟨_, rfl, _, rfl, D, _, _, _, rfl, rfl, SqL.of e6, atI_nat (map_get g), rfl, decide (flat.count (n : Int) = 2), ?_, ?_⟩
            · rw [hc]
              refine congrArg V.bl (decide_eq_decide.mpr ?_)
              rw [V.int.injEq]
              omega
            by_cases h22 : flat.count (n : Int) = 2
            · rw [decide_eq_true h22]
              refine ite_tt ⟨_, rfl, fun d nd => fail ?_ d _ (s6.trans (same_new nd)) upd_same⟩
              rw [badAt_some]
              have : st.any (fun t => decide (2 ≤ flat.count t)) = true := List.any_eq_true.mpr ⟨_, mt, decide_eq_true (by omega)⟩
              rw [this]; simp
            rw [decide_eq_false h22]
            refine ite_ff ?_
            refine ⟨_, rfl, _, rfl, D, _, _, _, rfl, rfl, SqL.of e6, by omega, atI_nat (map_get g), _, _, rfl, rfl, D, _, _, n, rfl, rfl, e6, (by rw [List.length_map, cntOf_len]; exact ixN_nat hn), ?_⟩
            refine ⟨_, rfl, same_upd s6 nHD, ?_, fun t ht2 => ?_⟩
            · rw [upd_same, List.take_add_one, ht, ← List.append_assoc]
              show _ = some (HO.lst ((cntOf (flat ++ st.take j ++ [((n : Nat) : Int)])).map V.int))
              rw [cntOf_add _ hn, List.map_set]
            · rw [List.take_add_one, ht] at ht2
              rcases List.mem_append.mp ht2 with z | z
              · exact low t z
              · simp at z
                subst z
                omega
        · obtain ⟨y5, rfl, s6, e6, low⟩ := hp
          rw [List.length_map, List.take_length] at e6 low
          refine ⟨_, rfl, sa, _, _, _, flat ++ st, st, rfl, s6, e6, ?_, fun t => ?_, ?_⟩
          · exact same_tup s6 hsa
          · rw [List.count_append]
            have z1 := c2 t
            have z2 := setB_count hst t
            by_cases mt : t ∈ st
            · have := low t mt; omega
            · rw [List.count_eq_zero_of_not_mem mt]; omega
          · rw [jd]
            show (if badAt flat pv (some st) = true then some i else judgeFrom (i + 1) (flat ++ st) st (its.drop (i + 1))) = _
            rw [if_neg]
            rw [badAt_some]
            have : st.any (fun t => decide (2 ≤ flat.count t)) = false := List.any_eq_false.mpr fun t mt => by have := low t mt; simp; omega
            rw [this, hst, hlt]
            simp [hne]
    · obtain ⟨b, y3, y4, y5, flat, pv, rfl, s3, e3, b3, c2, jd⟩ := hp
      rw [hX.1, List.drop_length] at jd
      have jd : judge its = if lackB flat = true then some its.length else none := jd
      -- many = MOST_TIES - counts.count(0)
      refine ⟨_, rfl, .inl ⟨rfl, _, SqL.of e3⟩, D, _, _, rfl, rfl, SqL.of e3, _, _, rfl, rfl, ?_⟩
      -- 0 in counts[:many]
      refine ⟨_, rfl, _, rfl, _, rfl, D, _, rfl, SqL.of e3, fun p2 np2 => ?_⟩
      refine ⟨p2, _, rfl, .inl (SqL.of upd_same), rfl, ?_, lackB flat, rfl, ?_⟩
      · rw [List.all_eq_true]
        intro y hy
        unfold cutV at hy
        have hy := List.mem_of_mem_drop (List.mem_of_mem_take hy)
        obtain ⟨c, _, rfl⟩ := List.mem_map.mp hy
        rfl
      cases hl : lackB flat with
      | false => exact ite_ff (q (by rw [jd, hl]; rfl) _ (s3.trans (same_new np2)))
      | true =>
        refine ite_tt ⟨_, rfl, a, _, rfl, (hS.same s3).same (same_new np2), fun d nd => ?_⟩
        have hE := hE its.length (by rw [jd, hl]; rfl)
        rw [hX.1]
        exact hE d _ ((s3.trans (same_new np2)).trans (same_new nd)) upd_same
end
end Sg

/-! Web(..) of values of any kind. -/
namespace Sg
open PySem PySem.Spec PyProof.Rows L2 Gx Sx RZ
theorem judge_none : ∀ (its : List (Option (List Int))) (n : Nat) (flat pv : List Int), judgeFrom n flat pv its = none → (∀ u, flat.count u ≤ 2) → ∃ ss : List (List Int), its = ss.map some ∧ (∀ s ∈ ss, s ≠ [] ∧ setB 12 s = true) ∧
    (∀ (i : Nat) (x y : List Int), (pv :: ss)[i]? = some x → ss[i]? = some y → HT.lexLt y x = false) ∧ (∀ t, (flat ++ ss.flatten).count t ≤ 2) ∧ lackB (flat ++ ss.flatten) = false
  | [], n, flat, pv, h, c2 => by
    have h : (if lackB flat = true then some n else none) = none := h
    refine ⟨[], rfl, fun s hs => by simp at hs, fun i x y _ e => by simp at e, fun t => by simpa using c2 t, ?_⟩
    rw [List.flatten_nil, List.append_nil]
    cases hl : lackB flat with
    | false => rfl
    | true => rw [hl] at h; cases h
  | it :: r, n, flat, pv, h, c2 => by
    have h : (if badAt flat pv it = true then some n else judgeFrom (n + 1) (flat ++ it.getD []) (it.getD []) r) = none := h
    cases hb : badAt flat pv it with
    | true => rw [hb] at h; cases h
    | false =>
      rw [hb] at h
      have h : judgeFrom (n + 1) (flat ++ it.getD []) (it.getD []) r = none := h
      cases it with
      | none => cases hb
      | some s =>
        rw [badAt_some] at hb
        simp only [Bool.or_eq_false_iff, Bool.not_eq_false'] at hb
        obtain ⟨⟨⟨h1, h2⟩, h3⟩, h4⟩ := hb
        have low : ∀ t ∈ s, flat.count t < 2 := fun t ht => by
          have := List.any_eq_false.mp h4 t ht
          simp only [decide_eq_true_eq] at this
          omega
        have c3 : ∀ u, (flat ++ s).count u ≤ 2 := fun t => by
          rw [List.count_append]
          have z1 := c2 t
          have z2 := setB_count h1 t
          by_cases mt : t ∈ s
          · have := low t mt; omega
          · rw [List.count_eq_zero_of_not_mem mt]; omega
        obtain ⟨ss, e1, e2, e3, e4, e5⟩ := judge_none r (n + 1) (flat ++ s) s h c3
        refine ⟨s :: ss, by rw [e1]; rfl, fun u hu => ?_, fun i x y ex ey => ?_, fun t => ?_, ?_⟩
        · rcases List.mem_cons.mp hu with z | z
          · rw [z]
            exact ⟨fun z => by rw [z] at h2; simp at h2, h1⟩
          · exact e2 u z
        · cases i with
          | zero =>
            cases ex
            cases ey
            exact h3
          | succ j => exact e3 j x y ex ey
        · have := e4 t
          rwa [List.append_assoc] at this
        · rwa [List.append_assoc] at e5
theorem count_tail {f : Nat → Bool} {k : Nat} (hk : k ≤ 12) (hc : (List.range 12).countP f = k) (h : ∀ t, t < k → f t = true) {t : Nat} (ht : t < 12) (hf : f t = true) : t < k := by
  by_cases z : t < k
  · exact z
  · exfalso
    have e : List.range 12 = List.range k ++ (List.range (12 - k)).map (k + ·) := by
      rw [← List.range_add]
      congr 1
      omega
    rw [e, List.countP_append] at hc
    have c1 : (List.range k).countP f = k := by
      rw [List.countP_eq_length.mpr fun a ha => h a (List.mem_range.mp ha), List.length_range]
    have c2 : 0 < ((List.range (12 - k)).map (k + ·)).countP f := List.countP_pos_iff.mpr ⟨t, List.mem_map.mpr ⟨t - k, List.mem_range.mpr (by omega), by omega⟩, hf⟩
    omega
theorem judge_good {its : List (Option (List Int))} (h : judge its = none) (hl : its.length ≤ 100) : ∃ (ss : List (List Int)) (k : Nat), its = ss.map some ∧ Good ss k := by
  obtain ⟨ss, e1, e2, e3, e4, e5⟩ := judge_none its 0 [] [] h (fun u => by simp)
  rw [List.nil_append] at e5
  simp only [List.nil_append] at e4
  have zc : (cntOf ss.flatten).count 0 + (List.range 12).countP (fun (t : Nat) => decide (0 < ss.flatten.count ((t : Nat) : Int))) = 12 := by
    have e : (cntOf ss.flatten).count 0 = (List.range 12).countP fun (t : Nat) => !decide (0 < ss.flatten.count ((t : Nat) : Int)) := by
      unfold cntOf
      rw [List.count_eq_countP, List.countP_map]
      apply List.countP_congr
      intro t ht
      simp only [Function.comp, beq_iff_eq, Bool.not_eq_true', decide_eq_false_iff_not]
      omega
    rw [e]
    have := List.length_eq_countP_add_countP (fun t => decide (0 < ss.flatten.count ((t : Nat) : Int))) (l := List.range 12)
    rw [List.length_range] at this
    simp only [Bool.not_eq_true] at this ⊢
    have e2 : (List.range 12).countP (fun t => !decide (0 < ss.flatten.count ((t : Nat) : Int))) = (List.range 12).countP (fun a => decide (decide (0 < ss.flatten.count ((a : Nat) : Int)) = false)) := by
      apply List.countP_congr
      intro t _
      cases decide (0 < ss.flatten.count ((t : Nat) : Int)) <;> simp
    rw [e2]
    omega
  generalize hk : (List.range 12).countP (fun (t : Nat) => decide (0 < ss.flatten.count ((t : Nat) : Int))) = k at zc
  have k12 : k ≤ 12 := by omega
  have pos : ∀ t, t < k → 0 < ss.flatten.count ((t : Nat) : Int) := fun t ht => by
    unfold lackB at e5
    have ez : ((12 : Int) - (((cntOf ss.flatten).count 0 : Nat) : Int)) = ((k : Nat) : Int) := by omega
    rw [ez] at e5
    unfold cutV at e5
    rw [HT.sIx_none, HT.sIx_nat, List.length_map, cntOf_len, Nat.min_eq_left k12, List.drop_zero, Nat.sub_zero] at e5
    have g := cntOf_get ss.flatten (t := t) (by omega)
    have mem : V.int ((ss.flatten.count ((t : Nat) : Int) : Nat) : Int) ∈ ((cntOf ss.flatten).map V.int).take k := by
      refine List.mem_iff_getElem?.mpr ⟨t, ?_⟩
      rw [List.getElem?_take, if_pos ht, List.getElem?_map, g]
      rfl
    have := List.any_eq_false.mp e5 _ mem
    have : ¬ ((((ss.flatten.count ((t : Nat) : Int) : Nat) : Int) == 0) = true) := this
    simp only [beq_iff_eq] at this
    omega
  refine ⟨ss, k, e1, ⟨by rw [e1, List.length_map] at hl; exact hl, fun s hs => (e2 s hs).1, fun s hs => (e2 s hs).2, fun i x y ex ey => e3 (i + 1) x y ex ey, e4, k12, fun t ht => ⟨fun z => ?_, fun z => pos t z⟩⟩⟩
  exact count_tail k12 hk (fun t ht => decide_eq_true (pos t ht)) ht (decide_eq_true z)
section
variable {P : Program} {w : World} {K : PySem.W.Frag} {mg : Str → Option Value} {base : Heap}
theorem items_stars {H : Hp} {xs : List V} {ss : List (List Int)} (h : Items K H xs (ss.map some)) : Stars K H xs ss ∧ ∀ s ∈ ss, s.length ≤ 100 := by
  refine ⟨⟨by rw [h.1, List.length_map], fun i s e => ?_⟩, fun s hs => ?_⟩
  · obtain ⟨v, h1, h2⟩ := h.2 i (some s) (by rw [List.getElem?_map, e]; rfl)
    cases h2 with
    | tup h hl => exact ⟨_, h1, h⟩
  · obtain ⟨i, hi, e⟩ := List.mem_iff_getElem.mp hs
    obtain ⟨v, h1, h2⟩ := h.2 i (some s) (by rw [List.getElem?_map, List.getElem?_eq_getElem hi, e]; rfl)
    cases h2 with
    | tup h hl => exact Nat.le_trans hl (by decide)
def spWInitX (K : PySem.W.Frag) (C c0 : Addr) : Sp := fun vs H Q E => ∃ (x dx : Addr) (v : V), vs = [.ref x, v] ∧ H x = some (.ins C dx []) ∧ ((∀ H', Same H H' → NoSeq K H' v) ∧ EB E c0 .non H ∨ ∃ (a : Addr) (xs : List V) (its : List (Option (List Int))), v = .ref a ∧ SqA K H a xs ∧ Items K H xs its ∧ its.length ≤ 100 ∧
  (∀ n : Nat, judge its = some n → EB E c0 (.int n) H) ∧ ∀ ss k, its = ss.map some → judge its = none → Good ss k → ∀ H', ButX x H H' → WebAt K C H' x ss k → Q .non H')
theorem ok_winitX {f fC fS C c0 : Addr} {fd fdC fdS : FuncData} (F : Fun K "__init__" "Web.__init__" sWInit f fd) (T : WebC K mg C) (GC : FnOk P w K mg base (L2.CX P w) 3 fC fdC ["stars"] (spCheckX K c0)) (gC : mg "check_stars" = some (.ref fC)) (kC : PySem.W.keepIn K (.ref fC) = true) (bC : Binds K fdC ["stars"] [])
    (GS : FnOk P w K mg base CX0 1 fS fdS ["stars"] (spSides K)) (gS : mg "sides_of" = some (.ref fS)) (kS : PySem.W.keepIn K (.ref fS) = true) (bS : Binds K fdS ["stars"] []) (mt : mg "tuple" = none) : FnOk P w K mg base (L2.CX P w) 4 f fd ["self", "stars"] (spWInitX K C c0) := by
  refine F.okX scWInit (fun vs H Q E h => ?_) (fun cdv A outer s H vs Q E hr h => ?_)
  · obtain ⟨x, dx, v, rfl, _⟩ := h
    rfl
  · obtain ⟨x, dx, v, rfl, hx, h⟩ := h
    refine ⟨_, pss_cons (ps_expr (pe_call (E := E) GC hr (by rfl) gC kC bC .nil (passes_call (takes_of rfl rfl rfl rfl) (fun _ _ _ _ h => h)) (pa_cons (pv 1) pa_nil)))
      (pss_cons (ps_fld (pv 0) (pe_callTy call_tuple_of (by rfl) mt (by decide +kernel) (pa_cons (pe_lc (own := [("star", 2)]) (g := gName 2) (tt := tYes) (by rfl) scWInit.nd (pi_seqA (pv 1)) (blkOk_by (own := [("star", 2)]) (N := ["self", "stars", "star"]) (sc := defScope sWInit) (by decide +kernel))
          (fun _ _ _ _ _ => pg_name (i := 2) scWInit.nd rfl (Or.inl rfl)) (fun _ _ _ _ _ => pts_nil) (fun _ _ _ _ _ => pe_callTy (call_tupK (K := K) rfl) (by rfl) mt (by decide +kernel) (pa_cons (pv 2) pa_nil))) pa_nil)) rfl)
      (pss_one (ps_fld (pv 0) (pe_call GS (hr.mono (by decide)) (by rfl) gS kS bS .nil pass0 (pa_cons (pe_fld (pv 0) rfl) pa_nil)) rfl))), ?_⟩
    refine ⟨_, rfl, v, rfl, ?_⟩
    rcases h with ⟨hn, hE⟩ | ⟨a, xs, its, rfl, hS, hI, hlen, hE, q⟩
    · exact .inl ⟨hn, hE⟩
    refine .inr ⟨a, xs, its, rfl, hS, hI, hlen, fun hj H1 s1 => ?_, hE⟩
    obtain ⟨ss, k, rfl, hG⟩ := judge_good hj hlen
    obtain ⟨hX, hL⟩ := items_stars hI
    replace q := q ss k rfl hj hG
    -- self.stars = tuple([tuple(star) for star in stars])
    show tSeq _ _ _ [some (.ref x), some (.ref a), none] H1
    unfold tSeq sFld tCB tCons tNil
    dsimp only
    show tLc (iSeqA K (tVar 1)) _ _ _ _ [some (.ref x), some (.ref a), none] H1 _
    refine lc_seqA rfl hS s1 fun D nD => ⟨fun i H' => Same H1 H' ∧ H' D = some (.lst (xs.take i)), ⟨same_new nD, upd_same⟩, fun i H' p => s1.trans p.1, fun i y H2 H3 hi hp hy => ?_, fun H2 hp => ?_⟩
    · obtain ⟨sm, eD⟩ := hp
      obtain ⟨rfl, hx'⟩ := hy
      have gs : ss[i]? = some (ss[i]'(by rw [← hX.1]; exact hi)) := List.getElem?_eq_getElem _
      generalize ss[i]'(by rw [← hX.1]; exact hi) = st at gs
      obtain ⟨sa, f3, hsa⟩ := hX.2 i st gs
      rw [f3] at hx'
      cases hx'
      refine ⟨rfl, tyes_ite ?_⟩
      refine ⟨_, rfl, sa, _, rfl, same_tup (s1.trans sm) hsa, _, eD, ?_, fun b o e => ?_, ?_⟩
      · rw [List.length_take]; have := hG.n; have := hX.1; exact small1000 (by omega)
      · rw [upd_ne (ne_of_none e nD)]
        exact sm b o e
      · rw [upd_same, List.take_add_one, f3]
        rfl
    obtain ⟨sm, eD⟩ := hp
    rw [List.take_length] at eD
    refine ⟨D, _, rfl, .inl ⟨SqL.of eD, fun p np => ?_⟩⟩
    have s2 := s1.trans (sm.trans (same_new (o := .tup xs) np))
    have ep : SqT K (upd H2 p (.tup xs)) p xs := SqT.of upd_same
    generalize upd H2 p (.tup xs) = H3 at s2 ep ⊢
    have hx3 := s2 _ _ hx
    refine ⟨_, rfl, x, C, dx, [], rfl, hx3, T.cl, T.nSt, by show 0 < 1000; decide, ?_⟩
    have e4 : ButX x H3 (upd H3 x (.ins C dx (putF "stars" (.ref p) []))) := butX_upd
    have hx4 : (upd H3 x (.ins C dx (putF "stars" (.ref p) []))) x = some (.ins C dx (putF "stars" (.ref p) [])) := upd_same
    generalize upd H3 x (.ins C dx (putF "stars" (.ref p) [])) = H4 at e4 hx4 ⊢
    -- self.sides = sides_of(self.stars)
    have ep4 := butX_tup e4 hx3 ep
    have hX4 := (hX.same s2).butX e4 hx3
    refine ⟨_, rfl, x, C, dx, _, _, rfl, hx4, T.cl, T.nSt, (by rw [lookup_putF, if_pos rfl] <;> rfl), p, xs, ss, k, rfl, ep4, hX4, hG, fun H5 q' s5 nq hsd => ?_⟩
    have hx5 := s5 _ _ hx4
    refine ⟨_, rfl, x, C, dx, _, rfl, hx5, T.cl, T.nSi, by show 1 < 1000; decide, ?_⟩
    have e6 : ButX x H5 (upd H5 x (.ins C dx (wf p q'))) := butX_upd
    obtain ⟨as, z1, z2, z3⟩ := hsd
    exact q _ ((ButX.of s2).trans (e4.trans ((ButX.of s5).trans e6))) ⟨dx, p, q', xs, upd_same, butX_tup e6 hx5 (same_tup s5 ep4), (hX4.same s5).butX e6 hx5, as, z1, butX_tup e6 hx5 z2, fun t b e => butX_tup e6 hx5 (z3 t b e)⟩
end
end Sg

/-! The law's own look at sets. -/
namespace Sg
open PySem PySem.Spec PyProof.Rows L2 RZ StX Gx
abbrev sIsSet : Stmt := topS 29
/-- set(t), t a tuple of integers -/
def rSetTI (K : PySem.W.Frag) (w : World) : List V → Hp → VK → Prop := fun vs H Q => ∃ (a : Addr) (ns : List Int), vs = [.ref a] ∧ SqT K H a (ns.map V.int) ∧ ns.length ≤ 100 ∧ ∀ (p : Addr) (c : Nat), H p = none → c ≤ ns.length → Q (.ref p) (upd H p (SetO w p (fun j => decide (j ∈ ns)) c))
theorem cr_setTI {X : Cx} (hc : X.calm = true) : CallR X (.type "set") (rSetTI X.K X.w) := by
  intro pins s σ H vs us Q I r h
  obtain ⟨a, ns, rfl, hs, hl, q⟩ := h
  obtain ⟨its, rv, ht, _⟩ := I.tuple hs
  rw [Vals.ref1 r]
  refine call_set_tupI ns (I.ok.hd hc) (show s.heap.IsTuple a its.toArray from ht) (by simpa using rv.ints) (by unfold scanBound; omega) fun h' tk c R hcl k => ?_
  have hn : H s.heap.objs.size = none := I.hok.fresh (Nat.le_refl _)
  exact ⟨.ref _, _, I.laid (t' := tk) k (Nat.le_refl _) (setO_new R), rfl, q _ c hn hcl⟩
theorem asc_ext : ∀ l r : List Int, l.Pairwise (· < ·) → r.Pairwise (· < ·) → (∀ k, k ∈ l ↔ k ∈ r) → l = r
  | [], [], _, _, _ => rfl
  | [], b :: r, _, _, h => by have := (h b).mpr List.mem_cons_self; simp at this
  | a :: l, [], _, _, h => by have := (h a).mp List.mem_cons_self; simp at this
  | a :: l, b :: r, h1, h2, h => by
    obtain ⟨a1, a2⟩ := List.pairwise_cons.mp h1
    obtain ⟨b1, b2⟩ := List.pairwise_cons.mp h2
    have e : a = b := by
      rcases List.mem_cons.mp ((h a).mp List.mem_cons_self) with z | z
      · exact z
      · rcases List.mem_cons.mp ((h b).mpr List.mem_cons_self) with y | y
        · exact y.symm
        · have := b1 a z
          have := a1 b y
          omega
    subst e
    rw [asc_ext l r a2 b2 fun k => ⟨fun hk => ?_, fun hk => ?_⟩]
    · rcases List.mem_cons.mp ((h k).mp (List.mem_cons_of_mem _ hk)) with z | z
      · have := a1 k hk; omega
      · exact z
    · rcases List.mem_cons.mp ((h k).mpr (List.mem_cons_of_mem _ hk)) with z | z
      · have := b1 k hk; omega
      · exact z
theorem eqv_ints : ∀ a b : List Int, PyData.eqv (.list (a.map PyData.int)) (.list (b.map PyData.int)) = decide (a = b) := by
  have h : ∀ a b : List Int, PyData.eqvAll (a.map PyData.int) (b.map PyData.int) = decide (a = b) := by
    intro a
    induction a with
    | nil => intro b; cases b <;> simp [PyData.eqvAll]
    | cons x a ih =>
      intro b
      cases b with
      | nil => simp [PyData.eqvAll]
      | cons y b =>
        show (PyData.eqv (.int x) (.int y) && PyData.eqvAll (a.map PyData.int) (b.map PyData.int)) = _
        rw [ih b]
        have : PyData.eqv (.int x) (.int y) = decide (x = y) := rfl
        rw [this, Bool.eq_iff_iff]
        simp
  intro a b
  exact h a b
/-- ascending in range: so the sorted list of the same numbers is the list itself -/
theorem setB_sorted {m : Int} {ns out : List Int} (hin : ns.all (inB m) = true) (ho : out.Pairwise (· < ·)) (hm : ∀ k, k ∈ out ↔ decide (k ∈ ns) = true) : decide (ns = out) = setB m ns := by
  have hm : ∀ k, k ∈ out ↔ k ∈ ns := fun k => (hm k).trans decide_eq_true_iff
  cases e : setB m ns with
  | true =>
    have asc : ns.Pairwise (· < ·) := List.pairwise_iff_getElem.mpr fun i j hi hj hij => by
      have e2 := e
      unfold setB at e2
      exact setB_ltm e j i _ _ hij (List.getElem?_eq_getElem hi) (List.getElem?_eq_getElem hj)
    exact decide_eq_true (asc_ext ns out asc ho fun k => (hm k).symm)
  | false =>
    refine decide_eq_false fun z => ?_
    rw [← z] at ho
    have : setB m ns = true := by
      refine setB_of (fun t ht => ?_) ho
      have := List.all_eq_true.mp hin t ht
      unfold inB at this
      simpa using this
    rw [this] at e
    cases e
section
variable {P : Program} {w : World} {K : PySem.W.Frag} {mg : Str → Option Value} {base : Heap}
theorem scIsSet : FnScope ["value", "many", "tie"] ["value", "many"] (defScope sIsSet) := ⟨rfl, rfl, rfl, by decide +kernel, rfl, by decide +kernel, by decide +kernel⟩
theorem ok_isset {f : Addr} {fd : FuncData} (F : Fun K "_law_is_set" "_law_is_set" sIsSet f fd) (mis : mg "isinstance" = none) (mt : mg "tuple" = none) (mi : mg "int" = none) (mb : mg "bool" = none) (mli : mg "list" = none) (mso : mg "sorted" = none) (mse : mg "set" = none) : FnOk P w K mg base CX0 1 f fd ["value", "many"] (spSetX K) := by
  refine F.ok scIsSet (fun vs H Q E h => ?_) (fun cdv A outer s H vs Q E hr h => ?_)
  · obtain ⟨v, o, m, rfl, _⟩ := h
    rfl
  · obtain ⟨v, o, m, rfl, hv, k⟩ := h
    refine ⟨_, pss_cons (ps_if (pt_not (pt_val (pe_callB call_isi (by rfl) mis (by decide +kernel) (pa_cons (pv 0) (pa_cons (pe_bltn (v := .ty "tuple") (u := .type "tuple") (by rfl) mt (by decide +kernel) rfl) pa_nil))))) (pss_one (ps_ret pe_bl)) pss_nil)
      (pss_cons (ps_for PassesOwn.never rfl (pi_tup (pv 0)) (pg_name (i := 2) scIsSet.nd rfl (.inl rfl))
        (pss_one (ps_if (PW.pt (pw_or (pt_val (pe_callB call_isi (by rfl) mis (by decide +kernel) (pa_cons (pv 2) (pa_cons (pe_bltn (v := .ty "bool") (u := .type "bool") (by rfl) mb (by decide +kernel) rfl) pa_nil))))
          (pw_or (pt_not (pt_val (pe_callB call_isi (by rfl) mis (by decide +kernel) (pa_cons (pv 2) (pa_cons (pe_bltn (v := .ty "int") (u := .type "int") (by rfl) mi (by decide +kernel) rfl) pa_nil)))))
            (pw_or1 (pt_not (pt_chain op_le op_lt pe_int (pv 2) (pv 1))))))) (pss_one (ps_ret pe_bl)) pss_nil)))
      (pss_one (ps_ret (pe_cmpR (op_eqD hr.units) (pe_callTy call_list_of (by rfl) mli (by decide +kernel) (pa_cons (pv 0) pa_nil)) (pe_callB (id := "sorted") (cr_sortedSet rfl) (by rfl) mso (by decide +kernel) (pa_cons (pe_callTy (cr_setTI rfl) (by rfl) mse (by decide +kernel) (pa_cons (pv 0) pa_nil)) pa_nil)) (nomark _))))), ?_⟩
    cases hv with
    | non => exact ⟨_, rfl, _, _, _, _, _, rfl, .ty "tuple", .base .non, kit_ty (by decide +kernel), false, rfl, ite_tt (k _ (Same.refl _))⟩
    | int i => exact ⟨_, rfl, _, _, _, _, _, rfl, .ty "tuple", .base (.int i), kit_ty (by decide +kernel), false, rfl, ite_tt (k _ (Same.refl _))⟩
    | lst h => exact ⟨_, rfl, _, _, _, _, _, rfl, .ty "tuple", tyx_lst h, kit_ty (by decide +kernel), false, rfl, ite_tt (k _ (Same.refl _))⟩
    | @odd a v he h =>
      refine ⟨_, rfl, _, _, _, _, _, rfl, .ty "tuple", tyx_tup h, kit_ty (by decide +kernel), true, rfl, ite_ff ?_⟩
      refine ⟨_, rfl, a, rfl, ⟨_, h⟩, ?_⟩
      refine for_it (walk_tup (xs := [v])) (fun i σ H' => i = 0 ∧ σ = [some (.ref a), some (.int m), none] ∧ H' = H) ⟨rfl, rfl, rfl⟩ (fun i σ H' _ hp => by rw [hp.2.2]; exact h) (fun i x σ H1 H2 hi hp hy => ?_) (fun σ H1 hp => by have := hp.1; simp at this)
      obtain ⟨rfl, rfl, rfl⟩ := hp
      obtain ⟨rfl, hx⟩ := hy
      cases hx
      cases he with
      | bl b => exact ⟨_, rfl, _, _, _, _, _, rfl, .ty "bool", .base (.bl b), kit_ty (by decide +kernel), true, rfl, ite_tt (k _ (Same.refl _))⟩
      | str z =>
        refine ⟨_, rfl, _, _, _, _, _, rfl, .ty "bool", .base (.str z), kit_ty (by decide +kernel), false, rfl, ite_ff ?_⟩
        exact ⟨_, rfl, _, _, _, _, _, rfl, .ty "int", .base (.str z), kit_ty (by decide +kernel), false, rfl, ite_tt (k _ (Same.refl _))⟩
    | @tup a ns hS hl =>
      refine ⟨_, rfl, _, _, _, _, _, rfl, .ty "tuple", tyx_tup hS, kit_ty (by decide +kernel), true, rfl, ite_ff ?_⟩
      refine ⟨_, rfl, a, rfl, ⟨_, hS⟩, ?_⟩
      refine for_it (walk_tup (xs := ns.map V.int)) (fun i σ H' => ∃ y2, σ = [some (.ref a), some (.int m), y2] ∧ H' = H ∧ (ns.take i).all (inB m) = true) ⟨none, rfl, rfl, by simp⟩ (fun i σ H' _ hp => by obtain ⟨_, _, e, _⟩ := hp; rw [e]; exact hS) (fun i x σ H1 H2 hi hp hy => ?_) (fun σ H1 hp => ?_)
      · obtain ⟨y2, rfl, rfl, hall⟩ := hp
        obtain ⟨rfl, hx⟩ := hy
        rw [List.getElem?_map] at hx
        cases ht : ns[i]? with
        | none => rw [ht] at hx; cases hx
        | some t =>
          rw [ht] at hx
          cases hx
          refine ⟨_, rfl, _, _, _, _, _, rfl, .ty "bool", .base (.int t), kit_ty (by decide +kernel), false, rfl, ite_ff ?_⟩
          refine ⟨_, rfl, _, _, _, _, _, rfl, .ty "int", .base (.int t), kit_ty (by decide +kernel), true, rfl, ite_ff ?_⟩
          refine ⟨_, rfl, _, _, rfl, rfl, _, rfl, ?_⟩
          have no : inB m t = false → setO m (some ns) = false := fun z => by
            show setB m ns = false
            unfold setB
            rw [List.all_eq_false.mpr ⟨t, List.mem_of_getElem? ht, by rw [z]; simp⟩, Bool.false_and]
          by_cases h0 : 0 ≤ t
          · rw [decide_eq_true h0]
            refine ite_tt ⟨_, rfl, _, _, rfl, rfl, _, rfl, ?_⟩
            by_cases h1 : t < m
            · rw [decide_eq_true h1]
              refine ite_ff ⟨_, rfl, rfl, ?_⟩
              rw [List.take_add_one, ht, List.all_append, hall]
              show (true && (inB m t && true)) = true
              unfold inB
              rw [decide_eq_true h0, decide_eq_true h1]; rfl
            · rw [decide_eq_false h1]
              refine ite_tt ?_
              have := no (by unfold inB; rw [decide_eq_false h1, Bool.and_false])
              rw [this] at k
              exact k _ (Same.refl _)
          · rw [decide_eq_false h0]
            refine ite_ff ⟨_, rfl, ite_tt ?_⟩
            have := no (by unfold inB; rw [decide_eq_false h0, Bool.false_and])
            rw [this] at k
            exact k _ (Same.refl _)
      · obtain ⟨y2, rfl, rfl, hall⟩ := hp
        rw [List.length_map, List.take_length] at hall
        -- list(value) == sorted(set(value))
        refine ⟨_, rfl, a, _, rfl, .inr hS, fun L nL => ?_⟩
        have s1 := same_new (o := .lst (ns.map V.int)) nL
        have eL : (upd H1 L (.lst (ns.map V.int))) L = some (.lst (ns.map V.int)) := upd_same
        generalize upd H1 L (.lst (ns.map V.int)) = H2 at s1 eL ⊢
        refine ⟨_, rfl, a, ns, rfl, same_tup s1 hS, by omega, fun p c np hc => ?_⟩
        refine ⟨p, _, c, rfl, upd_same, by omega, fun out r ho hm _ nr => ?_⟩
        have s2 := (same_new (o := SetO w p (fun j => decide (j ∈ ns)) c) np).trans (same_new (o := .lst (out.map V.int)) nr)
        refine ⟨.list (ns.map PyData.int), .list (out.map PyData.int), .lst (SqL.of (s2 _ _ eL)) (dpAll_ints ns), .lst (SqL.of upd_same) (dpAll_ints out), shaped_ints _, shaped_ints _, ?_⟩
        rw [eqv_ints, setB_sorted hall ho hm]
        exact k _ (s1.trans s2)
end
end Sg

/-! t > u of tuples of integers. -/
namespace Sg
open PySem PySem.Spec PyProof.Rows L2
theorem lexAt_gt (ns ms : List Int) : ∀ (a b : List Int) (i : Nat), ns.drop i = a → ms.drop i = b → ∀ z : Bool, z = decide (a.length > b.length) →
    Ob.lexAt (fun j => decide (ns.getD j 0 = ms.getD j 0)) (fun j => decide (ms.getD j 0 < ns.getD j 0)) z i (min a.length b.length) = HT.lexLt b a
  | [], [], i, _, _, z, hz => by
    rw [HT.lexLt_nil_nil, hz]; rfl
  | [], y :: b, i, _, _, z, hz => by
    rw [HT.lexLt_cons_nil, hz]
    exact decide_eq_false (by simp)
  | x :: a, [], i, _, _, z, hz => by
    rw [HT.lexLt_nil_cons, hz]
    exact decide_eq_true (by simp)
  | x :: a, y :: b, i, ha, hb, z, hz => by
    have gx : ns.getD i 0 = x := by
      have : (ns.drop i)[0]? = some x := by rw [ha]; rfl
      rw [List.getElem?_drop, Nat.add_zero] at this
      rw [List.getD_eq_getElem?_getD, this]; rfl
    have gy : ms.getD i 0 = y := by
      have : (ms.drop i)[0]? = some y := by rw [hb]; rfl
      rw [List.getElem?_drop, Nat.add_zero] at this
      rw [List.getD_eq_getElem?_getD, this]; rfl
    have da : ns.drop (i + 1) = a := by
      have := congrArg List.tail ha
      rwa [List.tail_drop] at this
    have db : ms.drop (i + 1) = b := by
      have := congrArg List.tail hb
      rwa [List.tail_drop] at this
    rw [List.length_cons, List.length_cons, Nat.succ_min_succ, Ob.lexAt_succ, gx, gy, HT.lexLt_cons]
    by_cases e : x = y
    · rw [if_pos (decide_eq_true e), if_pos e.symm]
      exact lexAt_gt ns ms a b (i + 1) da db z (by rw [hz]; exact decide_eq_decide.mpr (by simp))
    · rw [if_neg (by rw [decide_eq_false e]; simp), if_neg (fun q => e q.symm)]
def rGtT (K : PySem.W.Frag) : R2 := fun x y H Q => ∃ (a b : Addr) (ns ms : List Int), x = .ref a ∧ y = .ref b ∧ SqT K H a (ns.map V.int) ∧ SqT K H b (ms.map V.int) ∧ Q (.bl (HT.lexLt ms ns)) H
theorem op_gtT {X : Cx} (hu : X.A.units < cLine) : OpR X (compareOp .Gt) (rGtT X.K) := by
  intro pins s σ H x y v u Q I rx ry h
  obtain ⟨a, b, ns, ms, rfl, rfl, ha, hb, q⟩ := h
  cases rx
  cases ry
  obtain ⟨its, r1, p1, _⟩ := I.tuple ha
  obtain ⟨its2, r2, p2, _⟩ := I.tuple hb
  have i1 : IntsAre its ns := r1.ints
  have i2 : IntsAre its2 ms := r2.ints
  have e1 : its.toArray.size = ns.length := (List.size_toArray ..).trans i1.length
  have e2 : its2.toArray.size = ms.length := (List.size_toArray ..).trans i2.length
  have g1 : ∀ j (h1 : j < its.toArray.size), ∃ t, its.toArray[j] = .int (ns.getD j 0) t := fun j h1 => i1.int_at _ _ (by simpa using h1)
  have g2 : ∀ j (h1 : j < its2.toArray.size), ∃ t, its2.toArray[j] = .int (ms.getD j 0) t := fun j h1 => i2.int_at _ _ (by simpa using h1)
  have R := Ob.RcOp.tuples_gt (A := X.A) (s := s) (e := fun j => decide (ns.getD j 0 = ms.getD j 0)) (r := fun j => decide (ms.getD j 0 < ns.getD j 0)) p1 p2 hu
    (fun j h1 h2 => by
      obtain ⟨t, et⟩ := g1 j h1
      obtain ⟨t', et'⟩ := g2 j h2
      have z : decide (ns.getD j 0 = ms.getD j 0) = (ns.getD j 0 == ms.getD j 0) := rfl
      rw [et, et', z]
      exact SeqAt.EqAt.int_int _ _ _ _)
    (fun j h1 h2 _ => by
      obtain ⟨t, et⟩ := g1 j h1
      obtain ⟨t', et'⟩ := g2 j h2
      rw [et, et']
      exact Ob.RcOp.gt_int _ _ _ _)
  rw [e1, e2, lexAt_gt ns ms ns ms 0 rfl rfl _ rfl] at R
  exact R _ _ _ _ ⟨.bl _, H, I, rfl, q⟩
end Sg

/-! What the law itself says of stars. -/
namespace Sg
open PySem PySem.Spec PyProof.Rows L2 RZ StX Gx
abbrev sDue : Stmt := topS 31
/-- d != {} -/
theorem op_ne_dnil {X : Cx} (hu : X.A.units < cLine) : OpR X (compareOp .NotEq) (fun x y H Q => ∃ (a b : Addr) (ks : List (Key × V)), x = .ref a ∧ y = .ref b ∧ H a = some (.dK ks) ∧ H b = some (.dK []) ∧ Q (.bl (!ks.isEmpty)) H) := by
  intro pins s σ H x y v u Q I rx ry h
  obtain ⟨a, b, ks, rfl, rfl, ea, eb, q⟩ := h
  obtain rfl : v = Value.ref a := rx
  obtain rfl : u = Value.ref b := ry
  obtain ⟨_, ya, va, ra, da⟩ := (show ObjOk X.prog X.w H s.heap a (.dK ks) from I.hok a _ ea)
  obtain ⟨_, yb, vb, rb, db⟩ := (show ObjOk X.prog X.w H s.heap b (.dK []) from I.hok b _ eb)
  have l1 := ra.length
  have l2 := rb.length
  refine PySem.W.keq_ne (knd := mixKind X.prog X.w) (r := true) ya yb da db hu (fun hl => hits_all rb ra fun p hp => ?_) (fin_bl I q ?_)
  · have : ks.length = 0 := by rw [l1, hl, ← l2]; rfl
    rw [List.length_eq_zero_iff.mp this] at hp
    simp at hp
  · rw [← l1, ← l2, Bool.and_true]
    cases ks <;> rfl
/-- the dict of how often each tie came -/
def Cnt (kvs : List (Key × V)) (flat : List Int) : Prop := ∃ ks : List Int, kvs.map (·.1) = ks.map Sum.inl ∧ ks.Nodup ∧ (∀ t, t ∈ ks ↔ t ∈ flat) ∧ ∀ t : Int, valV kvs (.inl t) = if t ∈ flat then some (.int (flat.count t : Nat)) else none
theorem Cnt.nil : Cnt [] [] := ⟨[], rfl, .nil, fun t => Iff.rfl, fun t => rfl⟩
theorem keys_put_old {kvs : List (Key × V)} {k : Key} {v w : V} (h : valV kvs k = some w) : (putK kvs k v).map (·.1) = kvs.map (·.1) := by
  unfold putK
  rw [valV_any, h]
  show ((kvs.map fun kv => if kv.1 = k then (kv.1, v) else kv)).map (·.1) = _
  rw [List.map_map]
  apply List.map_congr_left
  intro p _
  show (if p.1 = k then (p.1, v) else p).1 = p.1
  split <;> rfl
theorem Cnt.put {kvs : List (Key × V)} {flat : List Int} (C : Cnt kvs flat) (t : Int) : Cnt (putK kvs (.inl t) (.int ((flat.count t : Nat) + 1))) (flat ++ [t]) := by
  obtain ⟨ks, h1, h2, h3, h4⟩ := C
  have val : ∀ u : Int, valV (putK kvs (.inl t) (.int ((flat.count t : Nat) + 1))) (.inl u) = if u ∈ flat ++ [t] then some (.int ((flat ++ [t]).count u : Nat)) else none := fun u => by
    rw [valV_put, h4]
    by_cases e : u = t
    · subst e
      rw [if_pos rfl, if_pos (by simp), List.count_append, List.count_singleton_self]
      rfl
    · rw [if_neg fun z => e (Sum.inl.inj z)]
      have e2 : (u ∈ flat ++ [t]) ↔ u ∈ flat := by simp [e]
      have e3 : (flat ++ [t]).count u = flat.count u := by
        rw [List.count_append]
        have : [t].count u = 0 := List.count_eq_zero_of_not_mem (by simp [e])
        omega
      rw [e3]
      by_cases m : u ∈ flat
      · rw [if_pos m, if_pos (e2.mpr m)]
      · rw [if_neg m, if_neg fun z => m (e2.mp z)]
  by_cases m : t ∈ flat
  · refine ⟨ks, ?_, h2, fun u => ?_, val⟩
    · have := h4 t
      rw [if_pos m] at this
      rw [keys_put_old this, h1]
    · rw [h3]
      constructor
      · intro z; exact List.mem_append_left _ z
      · intro z
        rcases List.mem_append.mp z with y | y
        · exact y
        · rw [List.mem_singleton.mp y]; exact m
  · have hv := h4 t
    rw [if_neg m] at hv
    refine ⟨ks ++ [t], ?_, ?_, fun u => ?_, val⟩
    · rw [putK_new _ hv, List.map_append, h1, List.map_append]; rfl
    · rw [List.nodup_append]
      refine ⟨h2, by simp, fun a ha b hb => ?_⟩
      rw [List.mem_singleton.mp hb]
      intro z
      subst z
      exact m ((h3 a).mp ha)
    · rw [List.mem_append, List.mem_append, h3]
theorem zeros_plus (flat : List Int) : (cntOf flat).count 0 + (List.range 12).countP (fun (t : Nat) => decide (0 < flat.count ((t : Nat) : Int))) = 12 := by
  have e : (cntOf flat).count 0 = (List.range 12).countP fun (t : Nat) => !decide (0 < flat.count ((t : Nat) : Int)) := by
    unfold cntOf
    rw [List.count_eq_countP, List.countP_map]
    apply List.countP_congr
    intro t ht
    simp only [Function.comp, beq_iff_eq, Bool.not_eq_true', decide_eq_false_iff_not]
    omega
  rw [e]
  have := List.length_eq_countP_add_countP (fun (t : Nat) => decide (0 < flat.count ((t : Nat) : Int))) (l := List.range 12)
  rw [List.length_range] at this
  simp only [Bool.not_eq_true] at this ⊢
  have e2 : (List.range 12).countP (fun t => !decide (0 < flat.count ((t : Nat) : Int))) = (List.range 12).countP (fun a => decide (decide (0 < flat.count ((a : Nat) : Int)) = false)) := by
    apply List.countP_congr
    intro t _
    cases decide (0 < flat.count ((t : Nat) : Int)) <;> simp
  rw [e2]
  omega
theorem keys_count {flat ks : List Int} (h0 : ∀ t ∈ flat, 0 ≤ t ∧ t < 12) (nd : ks.Nodup) (hk : ∀ t, t ∈ ks ↔ t ∈ flat) : (List.range 12).countP (fun (t : Nat) => decide (0 < flat.count ((t : Nat) : Int))) = ks.length := by
  have nd2 : (((List.range 12).filter fun (t : Nat) => decide (0 < flat.count ((t : Nat) : Int))).map fun n => ((n : Nat) : Int)).Nodup := by
    rw [List.Nodup, List.pairwise_map]
    refine (List.pairwise_lt_range.filter _).imp fun {a b} h => ?_
    omega
  have perm : ks.Perm (((List.range 12).filter fun (t : Nat) => decide (0 < flat.count ((t : Nat) : Int))).map fun n => ((n : Nat) : Int)) := by
    refine (List.perm_ext_iff_of_nodup nd nd2).mpr fun t => ?_
    rw [hk]
    constructor
    · intro m
      obtain ⟨z0, z1⟩ := h0 t m
      obtain ⟨n, rfl⟩ := Int.eq_ofNat_of_zero_le z0
      exact List.mem_map.mpr ⟨n, List.mem_filter.mpr ⟨List.mem_range.mpr (by omega), decide_eq_true (List.count_pos_iff.mpr m)⟩, rfl⟩
    · intro m
      obtain ⟨n, hn, rfl⟩ := List.mem_map.mp m
      exact List.count_pos_iff.mp (of_decide_eq_true (List.mem_filter.mp hn).2)
  rw [perm.length_eq, List.length_map, List.countP_eq_length_filter]
theorem keys_len {flat ks : List Int} (h0 : ∀ t ∈ flat, 0 ≤ t ∧ t < 12) (nd : ks.Nodup) (hk : ∀ t, t ∈ ks ↔ t ∈ flat) : ks.length ≤ 12 := by
  rw [← keys_count h0 nd hk]
  exact Nat.le_trans List.countP_le_length (by rw [List.length_range]; exact Nat.le_refl _)
/-- a tie lacks: as the law says it -/
theorem lack_is {flat ks ys : List Int} (h0 : ∀ t ∈ flat, 0 ≤ t ∧ t < 12) (nd : ks.Nodup) (hk : ∀ t, t ∈ ks ↔ t ∈ flat) (p : ys.Perm ks) (a : ys.Pairwise (· ≤ ·)) : lackB flat = !decide (ys = (List.range ks.length).map fun n => ((n : Nat) : Int)) := by
  have zp := zeros_plus flat
  have hn := keys_count h0 nd hk
  generalize ks.length = n at hn ⊢
  have n12 : n ≤ 12 := by omega
  have lk : lackB flat = ((cntOf flat).take n).any fun z => z == 0 := by
    unfold lackB
    have ez : ((12 : Int) - (((cntOf flat).count 0 : Nat) : Int)) = ((n : Nat) : Int) := by omega
    rw [ez]
    unfold cutV
    rw [HT.sIx_none, HT.sIx_nat, List.length_map, cntOf_len, Nat.min_eq_left n12, List.drop_zero, Nat.sub_zero, ← List.map_take]
    unfold inV
    rw [List.any_map]
    rfl
  have asc : ys.Pairwise (· < ·) := by
    have nd3 : ys.Nodup := p.nodup_iff.mpr nd
    exact (List.Pairwise.and a nd3).imp fun {x y} h => by omega
  have ascR : ((List.range n).map fun n => ((n : Nat) : Int)).Pairwise (· < ·) := by
    rw [List.pairwise_map]
    exact List.pairwise_lt_range.imp fun {x y} h => by omega
  rw [lk]
  by_cases h : ∀ t, t < n → 0 < flat.count ((t : Nat) : Int)
  · have e1 : (((cntOf flat).take n).any fun z => z == 0) = false := by
      rw [List.any_eq_false]
      intro z hz
      obtain ⟨j, hj, rfl⟩ := List.mem_iff_getElem.mp hz
      have hjn : j < n := by rw [List.length_take] at hj; omega
      have g := cntOf_get flat (t := j) (by omega)
      have gl : j < (cntOf flat).length := by rw [cntOf_len]; omega
      rw [List.getElem_take]
      rw [List.getElem?_eq_getElem gl] at g
      rw [Option.some.inj g]
      have := h j hjn
      simp only [beq_iff_eq]
      omega
    have e2 : ys = (List.range n).map fun n => ((n : Nat) : Int) := asc_ext _ _ asc ascR fun k => by
      rw [p.mem_iff, hk]
      constructor
      · intro m
        obtain ⟨z0, z1⟩ := h0 k m
        obtain ⟨t, rfl⟩ := Int.eq_ofNat_of_zero_le z0
        exact List.mem_map.mpr ⟨t, List.mem_range.mpr (count_tail n12 hn (fun t ht => decide_eq_true (h t ht)) (by omega) (decide_eq_true (List.count_pos_iff.mpr m))), rfl⟩
      · intro m
        obtain ⟨t, ht, rfl⟩ := List.mem_map.mp m
        exact List.count_pos_iff.mp (h t (List.mem_range.mp ht))
    rw [e1, decide_eq_true e2]; rfl
  · obtain ⟨t, ht⟩ := Classical.not_forall.mp h
    obtain ⟨ht, hc⟩ := Classical.not_imp.mp ht
    have e1 : (((cntOf flat).take n).any fun z => z == 0) = true := by
      refine List.any_eq_true.mpr ⟨((flat.count ((t : Nat) : Int) : Nat) : Int), List.mem_iff_getElem?.mpr ⟨t, ?_⟩, beq_iff_eq.mpr (by omega)⟩
      rw [List.getElem?_take, if_pos ht]
      exact cntOf_get flat (by omega)
    have e2 : ¬ ys = (List.range n).map fun n => ((n : Nat) : Int) := fun z => by
      have m : ((t : Nat) : Int) ∈ ys := by rw [z]; exact List.mem_map.mpr ⟨t, List.mem_range.mpr ht, rfl⟩
      exact hc (List.count_pos_iff.mpr ((hk _).mp (p.mem_iff.mp m)))
    rw [e1, decide_eq_false e2]; rfl
end Sg

namespace Sg
open PySem PySem.Spec PyProof.Rows L2 RZ StX Gx
section
variable {P : Program} {w : World} {K : PySem.W.Frag} {mg : Str → Option Value} {base : Heap}
def spDue (K : PySem.W.Frag) : Sp := fun vs H Q _ => ∃ (p : Addr) (xs : List V) (its : List (Option (List Int))), vs = [.ref p] ∧ SqL K H p xs ∧ Items K H xs its ∧ its.length ≤ 100 ∧
  ∀ H', Same H H' → (judge its = none → Q .non H') ∧ ∀ (n : Nat) (q : Addr), judge its = some n → H' q = some (.tup [.str "stars", .int (n : Nat)]) → Q (.ref q) H'
theorem scDue : FnScope ["stars", "counts", "number", "star", "tie"] ["stars"] (defScope sDue) := ⟨rfl, rfl, rfl, by decide +kernel, rfl, by decide +kernel, by decide +kernel⟩
theorem ok_due {f fS : Addr} {fd fdS : FuncData} (F : Fun K "_law_due" "_law_due" sDue f fd) (GS : FnOk P w K mg base CX0 1 fS fdS ["value", "many"] (spSetX K)) (gS : mg "_law_is_set" = some (.ref fS)) (kS : PySem.W.keepIn K (.ref fS) = true) (bS : Binds K fdS ["value", "many"] [])
    (men : mg "enumerate" = none) (mra : mg "range" = none) (mle : mg "len" = none) (mli : mg "list" = none) (mso : mg "sorted" = none) : FnOk P w K mg base CX0 2 f fd ["stars"] (spDue K) := by
  refine F.ok scDue (fun vs H Q E h => ?_) (fun cdv A outer s H vs Q E hr h => ?_)
  · obtain ⟨p, xs, its, rfl, _⟩ := h
    rfl
  · obtain ⟨p, xs, its, rfl, hS, hX, hlen, q⟩ := h
    have hu := hu_of hr
    refine ⟨_, pss_cons (ps_set (i := 1) scDue.nd rfl (.inr rfl) pe_dnewK)
      (pss_cons (ps_for PassesOwn.never rfl (pi_enum (by rfl) men (pa_cons (pv 0) pa_nil)) (pg_tup rfl (pgs_cons (pg_name (i := 2) scDue.nd rfl (.inl rfl)) (pgs_cons (pg_name (i := 3) scDue.nd rfl (.inl rfl)) pgs_nil)))
        (pss_cons (ps_if (PW.pt (pw_or (pt_not (pt_val (pe_call GS hr (by rfl) gS kS bS .nil pass0 (pa_cons (pv 3) (pa_cons pe_int pa_nil)))))
            (pw_or (pt_cmpR (op_eqD hr.units) (pv 3) (pe_tup pa_nil) (nomark _)) (pw_or1 (PW.pt (pw_and (pt_cmpR op_gt (pv 2) pe_int (nomark _)) (pw_and1 (pt_cmpR (op_gtT hr.units0) (pe_ix ix_list (pv 0) (pe_op op_sub (pv 2) pe_int) (fun _ _ => rfl)) (pv 3) (nomark _))))))))) (pss_one (ps_ret (pe_tup (pa_cons pe_str (pa_cons (pv 2) pa_nil))))) pss_nil)
        (pss_cons (ps_for PassesOwn.never rfl (pi_tup (pv 3)) (pg_name (i := 4) scDue.nd rfl (.inl rfl))
          (pss_one (ps_dput hu (pv 1) (pv 4) (pe_op op_add (pe_dget2 hu (pv 1) (pv 4) pe_int ⟨rfl, rfl, rfl, rfl⟩) pe_int) rfl)))
        (pss_one (ps_if (pt_cmpR (op_neD hr.units) (pe_lc (own := [("tie", 4)]) (g := gName 4) (by rfl) scDue.nd (pi_tup (pv 3)) (blkOk_by (own := [("tie", 4)]) (N := ["stars", "counts", "number", "star", "tie"]) (sc := defScope sDue) (by decide +kernel))
            (fun _ _ _ _ _ => pg_name (i := 4) scDue.nd rfl (Or.inl rfl)) (fun _ _ _ _ _ => pts_one (pt_cmpR op_gt (pe_dget hu (pv 1) (pv 4) (fun _ _ => rfl)) pe_int (nomark _))) (fun _ _ _ _ _ => pv 4)) (pe_lst pa_nil) (nomark _)) (pss_one (ps_ret (pe_tup (pa_cons pe_str (pa_cons (pv 2) pa_nil))))) pss_nil)))))
      (pss_cons (ps_if (PW.pt (pw_and (pt_cmpR (op_ne_dnil hr.units0) (pv 1) pe_dnewK (nomark _)) (pw_and1 (pt_cmpR (op_neD hr.units) (pe_callB (id := "sorted") (call_sortedDI rfl) (by rfl) mso (by decide +kernel) (pa_cons (pv 1) pa_nil))
          (pe_listRg rfl (by rfl) mli (prg_1 (by rfl) mra (pe_callB call_lenD (by rfl) mle PySem.boot_len (pa_cons (pv 1) pa_nil)))) (nomark _)))))
          (pss_one (ps_ret (pe_tup (pa_cons pe_str (pa_cons (pe_callB call_len_seq (by rfl) mle PySem.boot_len (pa_cons (pv 0) pa_nil)) pa_nil))))) pss_nil)
      (pss_one (ps_ret pe_non)))), ?_⟩
    refine fun C nC => ?_
    have s0 := same_new (o := .dK []) nC
    have eC : (upd H C (.dK [])) C = some (.dK []) := upd_same
    generalize upd H C (.dK []) = H1 at s0 eC ⊢
    refine ⟨_, rfl, p, xs, rfl, s0.seq hS, ?_⟩
    refine for_it (walk_enum (xs := xs)) (fun i σ H' => ∃ (y2 y3 y4 : Option V) (kvs : List (Key × V)) (flat pv : List Int), σ = [some (.ref p), some (.ref C), y2, y3, y4] ∧ Same H H' ∧ H' C = some (.dK kvs) ∧ Cnt kvs flat ∧ kvs.length ≤ 60 * i ∧ (∀ t ∈ flat, 0 ≤ t ∧ t < 12) ∧ (∀ t, flat.count t ≤ 2) ∧
        (i = 0 → pv = []) ∧ (∀ j, i = j + 1 → its[j]? = some (some pv)) ∧ judge its = judgeFrom i flat pv (its.drop i))
      ⟨none, none, none, [], [], [], rfl, s0, eC, .nil, by simp, fun t ht => by simp at ht, fun t => by simp, fun _ => rfl, fun j hj => by omega, by rw [List.drop_zero]; rfl⟩ (fun i σ H' _ hp => ?_) (fun i x σ H3 H4 hi hp hy => ?_) (fun σ H3 hp => ?_)
    · obtain ⟨_, _, _, _, _, _, _, s, _⟩ := hp
      exact s.seq hS
    · obtain ⟨y2, y3, y4, kvs, flat, pv, rfl, s3, e3, hC, lk, h12, c2, p0, p1, jd⟩ := hp
      obtain ⟨T, x1, x2, rfl, nT, rfl, f1, f2⟩ := hy
      cases f1
      have f2 : xs[i]? = some x2 := f2
      rw [hX.1] at hi
      have gs : its[i]? = some its[i] := List.getElem?_eq_getElem hi
      rw [List.drop_eq_getElem_cons hi] at jd
      generalize its[i] = it at gs jd
      obtain ⟨v, f3, hit⟩ := hX.2 i it gs
      rw [f3] at f2
      cases f2
      refine ⟨T, _, rfl, .inl (.inl upd_same), rfl, _, _, rfl, _, _, rfl, rfl, ?_⟩
      replace e3 := same_new (o := .tup [.int (i : Nat), x2]) nT _ _ e3
      replace s3 := s3.trans (same_new (o := .tup [.int (i : Nat), x2]) nT)
      generalize upd H3 T (.tup [.int (i : Nat), x2]) = H4 at s3 e3 ⊢
      have fail : badAt flat pv it = true → judge its = some i := fun hb => by
        rw [jd]
        show (if badAt flat pv it = true then some i else _) = some i
        rw [if_pos hb]
      have out : ∀ {H5 : Hp}, badAt flat pv it = true → Same H H5 → ∀ t, H5 t = none → Q (.ref t) (upd H5 t (.tup [.str "stars", .int (i : Nat)])) := fun hb s5 t nt => (q _ (s5.trans (same_new nt))).2 i t (fail hb) upd_same
      -- not _law_is_set(star, 12) or star == () or ..
      refine ⟨_, rfl, x2, it, 12, rfl, hit.same s3, fun H5 s5 => ?_⟩
      replace e3 := s5 _ _ e3
      replace s3 := s3.trans s5
      refine ⟨_, rfl, ?_⟩
      cases hset : setO 12 it with
      | false =>
        refine ite_tt ⟨_, rfl, by show 2 ≤ sizeLine; decide, out ?_ s3⟩
        cases it with
        | none => rfl
        | some ns =>
          have hset : setB 12 ns = false := hset
          rw [badAt_some, hset]; rfl
      | true =>
        refine ite_ff ?_
        cases hit with
        | non => cases hset
        | int _ => cases hset
        | lst _ => cases hset
        | odd _ _ => cases hset
        | @tup sa st hsa hL =>
        have hst : setB 12 st = true := hset
        refine ⟨_, rfl, by show 0 ≤ sizeLine; decide, fun e0 ne0 => ?_⟩
        have s6 := same_new (o := .tup []) ne0
        have ee0 : (upd H5 e0 (.tup [])) e0 = some (.tup []) := upd_same
        replace e3 := s6 _ _ e3
        replace s3 := s3.trans s6
        generalize upd H5 e0 (.tup []) = H6 at s3 e3 ee0 ⊢
        have hsa5 := same_tup s3 hsa
        refine ⟨.tuple (st.map PyData.int), .tuple [], .tup hsa5 (dpAll_ints _), .tup (SqT.of ee0) .nil, shapedT_ints _, rfl, st.isEmpty, by rw [eqv_tnil], ?_⟩
        cases hem : st.isEmpty with
        | true =>
          refine ite_tt ⟨_, rfl, by show 2 ≤ sizeLine; decide, out ?_ s3⟩
          rw [badAt_some, hem]; simp
        | false =>
        refine ite_ff ?_
        refine ⟨_, rfl, _, _, rfl, rfl, _, rfl, ?_⟩
        by_cases i0 : i = 0
        · rw [decide_eq_false (by omega)]
          refine ite_ff ?_
          have hl0 : HT.lexLt st pv = false := by
            rw [p0 i0]
            cases st with
            | nil => cases hem
            | cons _ _ => rfl
          rw [← hl0]
          cases hlt : HT.lexLt st pv with
          | true =>
            refine ite_tt ⟨_, rfl, by show 2 ≤ sizeLine; decide, out ?_ s3⟩
            rw [badAt_some, hlt]; simp
          | false =>
          refine ite_ff ?_
          -- for tie in star
          refine ⟨_, rfl, sa, rfl, ⟨_, hsa5⟩, ?_⟩
          refine for_it (walk_tup (xs := st.map V.int)) (fun j σ H' => ∃ (y4 : Option V) (kvs' : List (Key × V)), σ = [some (.ref p), some (.ref C), some (.int (i : Nat)), some (.ref sa), y4] ∧ Same H H' ∧ H' C = some (.dK kvs') ∧ Cnt kvs' (flat ++ st.take j) ∧ kvs'.length ≤ 60 * i + j)
            ⟨y4, kvs, rfl, s3, e3, by rw [List.take_zero, List.append_nil]; exact hC, by omega⟩ (fun j σ H' _ hp => ?_) (fun j x σ H7 H8 hj hp hy => ?_) (fun σ H7 hp => ?_)
          · obtain ⟨_, _, _, s, _⟩ := hp
            exact same_tup s hsa
          · obtain ⟨y4, kvs', rfl, s7, e7, C7, l7⟩ := hp
            obtain ⟨rfl, hx⟩ := hy
            rw [List.getElem?_map] at hx
            cases ht : st[j]? with
            | none => rw [ht] at hx; cases hx
            | some t =>
              rw [ht] at hx
              cases hx
              have hj2 := (List.getElem?_eq_some_iff.mp ht).1
              have hv : (valV kvs' (.inl t : Key)).getD (.int 0) = .int (((flat ++ st.take j).count t : Nat) : Int) := by
                obtain ⟨_, _, _, _, hval⟩ := C7
                rw [hval]
                by_cases m : t ∈ flat ++ st.take j
                · rw [if_pos m]; rfl
                · rw [if_neg m, List.count_eq_zero_of_not_mem m]; rfl
              refine ⟨_, rfl, C, rfl, .inl ⟨_, .inl e7⟩, _, rfl, _, DGet.k (k := (.inl t : Key)) e7, ?_⟩
              refine ⟨_, _, hv, rfl, ?_⟩
              refine ⟨_, rfl, _, rfl, C, _, rfl, DPut.k (k := (.inl t : Key)) e7 (by rw [sizeLine_eq]; omega), ?_⟩
              refine ⟨_, _, rfl, fun b o e => ?_, upd_same, ?_, ?_⟩
              · rw [upd_ne (ne_of_none e nC)]
                exact s7 b o e
              · rw [List.take_add_one, ht, ← List.append_assoc]
                exact C7.put t
              · have := length_putK kvs' (.inl t : Key) (V.int (((flat ++ st.take j).count t : Nat) + 1))
                show (putK kvs' (.inl t : Key) (V.int (((flat ++ st.take j).count t : Nat) + 1))).length ≤ _
                omega
          obtain ⟨y5, kvs', rfl, s7, e7, C7, l7⟩ := hp
          rw [List.length_map, List.take_length] at C7
          rw [List.length_map] at l7
          have hcnt : ∀ t ∈ st, (flat ++ st).count t = flat.count t + 1 := fun t m => by
            have z := setB_count hst t
            have z2 := List.count_pos_iff.mpr m
            rw [List.count_append]
            omega
          have hsa7 := same_tup s7 hsa
          -- [tie for tie in star if counts[tie] > 2] != []
          refine ⟨_, rfl, sa, rfl, ⟨_, hsa7⟩, fun L nL => ?_⟩
          refine lc_tup (K := K) (a := sa) (xs := st.map V.int) (fun j H' => Same H7 H' ∧ H' L = some (.lst (((st.take j).filter fun t => decide (2 ≤ flat.count t)).map V.int))) ⟨same_new nL, upd_same⟩ (fun j H' _ hp => same_tup (s7.trans hp.1) hsa) (fun j x H' hx hp => ?_) (fun H' hp => ?_)
          · obtain ⟨sm, eL⟩ := hp
            obtain ⟨t, rfl, ht⟩ : ∃ t, x = V.int t ∧ st[j]? = some t := by
              rw [List.getElem?_map] at hx
              cases e : st[j]? with
              | none => rw [e] at hx; cases hx
              | some u => rw [e] at hx; exact ⟨u, (Option.some.inj hx).symm, rfl⟩
            have mt := List.mem_of_getElem? ht
            have hj2 := (List.getElem?_eq_some_iff.mp ht).1
            have hv : valV kvs' (.inl t : Key) = some (.int (((flat ++ st).count t : Nat) : Int)) := by
              obtain ⟨_, _, _, _, hval⟩ := C7
              rw [hval, if_pos (List.mem_append_right _ mt)]
            refine ⟨rfl, ?_⟩
            refine ⟨_, rfl, _, rfl, C, _, rfl, (by rw [← hv]; exact DGet.k (k := (.inl t : Key)) (sm _ _ e7)), ?_⟩
            refine ⟨_, _, rfl, rfl, decide (2 ≤ flat.count t), ?_, ?_⟩
            · refine congrArg V.bl (decide_eq_decide.mpr ?_)
              rw [hcnt t mt]
              omega
            by_cases z : 2 ≤ flat.count t
            · rw [decide_eq_true z]
              refine ite_tt ⟨_, rfl, _, eL, ?_, fun b o e => ?_, ?_⟩
              · rw [List.length_map]
                have := List.length_filter_le (fun t => decide (2 ≤ flat.count t)) (st.take j)
                rw [List.length_take] at this
                exact small1000 (by omega)
              · rw [upd_ne (ne_of_none e nL)]
                exact sm b o e
              · rw [upd_same, List.take_add_one, ht, List.filter_append, List.map_append]
                simp [z]
            · rw [decide_eq_false z]
              refine ite_ff ⟨sm, ?_⟩
              rw [List.take_add_one, ht, List.filter_append, List.map_append]
              simp [z]
              simpa using eL
          obtain ⟨sm, eL⟩ := hp
          rw [List.length_map, List.take_length] at eL
          replace s7 := s7.trans sm
          replace e7 := sm _ _ e7
          refine ⟨by show 0 ≤ sizeLine; decide, fun z nz => ?_⟩
          have s8 := same_new (o := .lst []) nz
          have ez : (upd H' z (.lst [])) z = some (.lst []) := upd_same
          replace s7 := s7.trans s8
          replace e7 := s8 _ _ e7
          replace eL := s8 _ _ eL
          generalize upd H' z (.lst []) = H8 at s7 e7 eL ez ⊢
          refine ⟨.list ((st.filter fun t => decide (2 ≤ flat.count t)).map PyData.int), .list [], .lst (SqL.of eL) (dpAll_ints _), .lst (SqL.of ez) .nil, shaped_ints _, rfl, !(st.filter fun t => decide (2 ≤ flat.count t)).isEmpty, by rw [eqv_nil], ?_⟩
          have hany : st.any (fun t => decide (2 ≤ flat.count t)) = !(st.filter fun t => decide (2 ≤ flat.count t)).isEmpty := by
            cases e : st.any (fun t => decide (2 ≤ flat.count t)) with
            | true =>
              obtain ⟨t, m, ht⟩ := List.any_eq_true.mp e
              have : t ∈ st.filter fun t => decide (2 ≤ flat.count t) := List.mem_filter.mpr ⟨m, ht⟩
              cases g : (st.filter fun t => decide (2 ≤ flat.count t)) with
              | nil => rw [g] at this; simp at this
              | cons _ _ => rfl
            | false =>
              have : (st.filter fun t => decide (2 ≤ flat.count t)) = [] := List.filter_eq_nil_iff.mpr fun t m => by
                have := List.any_eq_false.mp e t m
                exact this
              rw [this]; rfl
          rw [← hany]
          cases hb : st.any (fun t => decide (2 ≤ flat.count t)) with
          | true =>
            refine ite_tt ⟨_, rfl, by show 2 ≤ sizeLine; decide, out ?_ s7⟩
            rw [badAt_some, hb]; simp
          | false =>
          refine ite_ff ?_
          refine ⟨_, _, _, kvs', flat ++ st, st, rfl, s7, e7, C7, by omega, fun t ht => ?_, fun t => ?_, fun z => by omega, fun j hj => ?_, ?_⟩
          · rcases List.mem_append.mp ht with z | z
            · exact h12 t z
            · exact setB_mem hst z
          · rw [List.count_append]
            have z1 := c2 t
            have z2 := setB_count hst t
            by_cases mt : t ∈ st
            · have := List.any_eq_false.mp hb t mt
              simp only [decide_eq_true_eq] at this
              omega
            · rw [List.count_eq_zero_of_not_mem mt]; omega
          · obtain rfl : j = i := by omega
            exact gs
          · rw [jd]
            show (if badAt flat pv (some st) = true then some i else judgeFrom (i + 1) (flat ++ st) st (its.drop (i + 1))) = _
            rw [if_neg]
            rw [badAt_some, hb, hst, hlt, hem]
            simp
        · rw [decide_eq_true (by omega)]
          refine ite_tt ?_
          obtain ⟨i1, hi1⟩ : ∃ i1, i = i1 + 1 := ⟨i - 1, by omega⟩
          obtain ⟨vb, gb, hb2⟩ := hX.2 i1 (some pv) (p1 i1 hi1)
          cases hb2 with
          | @tup sb _ hsb _ =>
          refine ⟨_, rfl, _, rfl, _, _, rfl, rfl, p, xs, _, _, rfl, rfl, s3.seq hS, by rw [show ((i : Nat) : Int) - 1 = ((i1 : Nat) : Int) by omega]; exact atI_nat gb, ?_⟩
          refine ⟨_, rfl, sb, sa, _, _, rfl, rfl, same_tup s3 hsb, hsa5, _, rfl, ?_⟩
          cases hlt : HT.lexLt st pv with
          | true =>
            refine ite_tt ⟨_, rfl, by show 2 ≤ sizeLine; decide, out ?_ s3⟩
            rw [badAt_some, hlt]; simp
          | false =>
          refine ite_ff ?_
          -- for tie in star
          refine ⟨_, rfl, sa, rfl, ⟨_, hsa5⟩, ?_⟩
          refine for_it (walk_tup (xs := st.map V.int)) (fun j σ H' => ∃ (y4 : Option V) (kvs' : List (Key × V)), σ = [some (.ref p), some (.ref C), some (.int (i : Nat)), some (.ref sa), y4] ∧ Same H H' ∧ H' C = some (.dK kvs') ∧ Cnt kvs' (flat ++ st.take j) ∧ kvs'.length ≤ 60 * i + j)
            ⟨y4, kvs, rfl, s3, e3, by rw [List.take_zero, List.append_nil]; exact hC, by omega⟩ (fun j σ H' _ hp => ?_) (fun j x σ H7 H8 hj hp hy => ?_) (fun σ H7 hp => ?_)
          · obtain ⟨_, _, _, s, _⟩ := hp
            exact same_tup s hsa
          · obtain ⟨y4, kvs', rfl, s7, e7, C7, l7⟩ := hp
            obtain ⟨rfl, hx⟩ := hy
            rw [List.getElem?_map] at hx
            cases ht : st[j]? with
            | none => rw [ht] at hx; cases hx
            | some t =>
              rw [ht] at hx
              cases hx
              have hj2 := (List.getElem?_eq_some_iff.mp ht).1
              have hv : (valV kvs' (.inl t : Key)).getD (.int 0) = .int (((flat ++ st.take j).count t : Nat) : Int) := by
                obtain ⟨_, _, _, _, hval⟩ := C7
                rw [hval]
                by_cases m : t ∈ flat ++ st.take j
                · rw [if_pos m]; rfl
                · rw [if_neg m, List.count_eq_zero_of_not_mem m]; rfl
              refine ⟨_, rfl, C, rfl, .inl ⟨_, .inl e7⟩, _, rfl, _, DGet.k (k := (.inl t : Key)) e7, ?_⟩
              refine ⟨_, _, hv, rfl, ?_⟩
              refine ⟨_, rfl, _, rfl, C, _, rfl, DPut.k (k := (.inl t : Key)) e7 (by rw [sizeLine_eq]; omega), ?_⟩
              refine ⟨_, _, rfl, fun b o e => ?_, upd_same, ?_, ?_⟩
              · rw [upd_ne (ne_of_none e nC)]
                exact s7 b o e
              · rw [List.take_add_one, ht, ← List.append_assoc]
                exact C7.put t
              · have := length_putK kvs' (.inl t : Key) (V.int (((flat ++ st.take j).count t : Nat) + 1))
                show (putK kvs' (.inl t : Key) (V.int (((flat ++ st.take j).count t : Nat) + 1))).length ≤ _
                omega
          obtain ⟨y5, kvs', rfl, s7, e7, C7, l7⟩ := hp
          rw [List.length_map, List.take_length] at C7
          rw [List.length_map] at l7
          have hcnt : ∀ t ∈ st, (flat ++ st).count t = flat.count t + 1 := fun t m => by
            have z := setB_count hst t
            have z2 := List.count_pos_iff.mpr m
            rw [List.count_append]
            omega
          have hsa7 := same_tup s7 hsa
          -- [tie for tie in star if counts[tie] > 2] != []
          refine ⟨_, rfl, sa, rfl, ⟨_, hsa7⟩, fun L nL => ?_⟩
          refine lc_tup (K := K) (a := sa) (xs := st.map V.int) (fun j H' => Same H7 H' ∧ H' L = some (.lst (((st.take j).filter fun t => decide (2 ≤ flat.count t)).map V.int))) ⟨same_new nL, upd_same⟩ (fun j H' _ hp => same_tup (s7.trans hp.1) hsa) (fun j x H' hx hp => ?_) (fun H' hp => ?_)
          · obtain ⟨sm, eL⟩ := hp
            obtain ⟨t, rfl, ht⟩ : ∃ t, x = V.int t ∧ st[j]? = some t := by
              rw [List.getElem?_map] at hx
              cases e : st[j]? with
              | none => rw [e] at hx; cases hx
              | some u => rw [e] at hx; exact ⟨u, (Option.some.inj hx).symm, rfl⟩
            have mt := List.mem_of_getElem? ht
            have hj2 := (List.getElem?_eq_some_iff.mp ht).1
            have hv : valV kvs' (.inl t : Key) = some (.int (((flat ++ st).count t : Nat) : Int)) := by
              obtain ⟨_, _, _, _, hval⟩ := C7
              rw [hval, if_pos (List.mem_append_right _ mt)]
            refine ⟨rfl, ?_⟩
            refine ⟨_, rfl, _, rfl, C, _, rfl, (by rw [← hv]; exact DGet.k (k := (.inl t : Key)) (sm _ _ e7)), ?_⟩
            refine ⟨_, _, rfl, rfl, decide (2 ≤ flat.count t), ?_, ?_⟩
            · refine congrArg V.bl (decide_eq_decide.mpr ?_)
              rw [hcnt t mt]
              omega
            by_cases z : 2 ≤ flat.count t
            · rw [decide_eq_true z]
              refine ite_tt ⟨_, rfl, _, eL, ?_, fun b o e => ?_, ?_⟩
              · rw [List.length_map]
                have := List.length_filter_le (fun t => decide (2 ≤ flat.count t)) (st.take j)
                rw [List.length_take] at this
                exact small1000 (by omega)
              · rw [upd_ne (ne_of_none e nL)]
                exact sm b o e
              · rw [upd_same, List.take_add_one, ht, List.filter_append, List.map_append]
                simp [z]
            · rw [decide_eq_false z]
              refine ite_ff ⟨sm, ?_⟩
              rw [List.take_add_one, ht, List.filter_append, List.map_append]
              simp [z]
              simpa using eL
          obtain ⟨sm, eL⟩ := hp
          rw [List.length_map, List.take_length] at eL
          replace s7 := s7.trans sm
          replace e7 := sm _ _ e7
          refine ⟨by show 0 ≤ sizeLine; decide, fun z nz => ?_⟩
          have s8 := same_new (o := .lst []) nz
          have ez : (upd H' z (.lst [])) z = some (.lst []) := upd_same
          replace s7 := s7.trans s8
          replace e7 := s8 _ _ e7
          replace eL := s8 _ _ eL
          generalize upd H' z (.lst []) = H8 at s7 e7 eL ez ⊢
          refine ⟨.list ((st.filter fun t => decide (2 ≤ flat.count t)).map PyData.int), .list [], .lst (SqL.of eL) (dpAll_ints _), .lst (SqL.of ez) .nil, shaped_ints _, rfl, !(st.filter fun t => decide (2 ≤ flat.count t)).isEmpty, by rw [eqv_nil], ?_⟩
          have hany : st.any (fun t => decide (2 ≤ flat.count t)) = !(st.filter fun t => decide (2 ≤ flat.count t)).isEmpty := by
            cases e : st.any (fun t => decide (2 ≤ flat.count t)) with
            | true =>
              obtain ⟨t, m, ht⟩ := List.any_eq_true.mp e
              have : t ∈ st.filter fun t => decide (2 ≤ flat.count t) := List.mem_filter.mpr ⟨m, ht⟩
              cases g : (st.filter fun t => decide (2 ≤ flat.count t)) with
              | nil => rw [g] at this; simp at this
              | cons _ _ => rfl
            | false =>
              have : (st.filter fun t => decide (2 ≤ flat.count t)) = [] := List.filter_eq_nil_iff.mpr fun t m => by
                have := List.any_eq_false.mp e t m
                exact this
              rw [this]; rfl
          rw [← hany]
          cases hb : st.any (fun t => decide (2 ≤ flat.count t)) with
          | true =>
            refine ite_tt ⟨_, rfl, by show 2 ≤ sizeLine; decide, out ?_ s7⟩
            rw [badAt_some, hb]; simp
          | false =>
          refine ite_ff ?_
          refine ⟨_, _, _, kvs', flat ++ st, st, rfl, s7, e7, C7, by omega, fun t ht => ?_, fun t => ?_, fun z => by omega, fun j hj => ?_, ?_⟩
          · rcases List.mem_append.mp ht with z | z
            · exact h12 t z
            · exact setB_mem hst z
          · rw [List.count_append]
            have z1 := c2 t
            have z2 := setB_count hst t
            by_cases mt : t ∈ st
            · have := List.any_eq_false.mp hb t mt
              simp only [decide_eq_true_eq] at this
              omega
            · rw [List.count_eq_zero_of_not_mem mt]; omega
          · obtain rfl : j = i := by omega
            exact gs
          · rw [jd]
            show (if badAt flat pv (some st) = true then some i else judgeFrom (i + 1) (flat ++ st) st (its.drop (i + 1))) = _
            rw [if_neg]
            rw [badAt_some, hb, hst, hlt, hem]
            simp
    · obtain ⟨y2, y3, y4, kvs, flat, pv, rfl, s3, e3, hC, lk, h12, c2, p0, p1, jd⟩ := hp
      rw [hX.1, List.drop_length] at jd
      have jd : judge its = if lackB flat = true then some its.length else none := jd
      obtain ⟨ks, k1, k2, k3, k4⟩ := hC
      have klen : kvs.length = ks.length := by
        have := congrArg List.length k1
        rwa [List.length_map, List.length_map] at this
      have k12 := keys_len h12 k2 k3
      refine ⟨_, rfl, fun z nz => ?_⟩
      have s4 := same_new (o := .dK []) nz
      have ez : (upd H3 z (.dK [])) z = some (.dK []) := upd_same
      replace e3 := s4 _ _ e3
      replace s3 := s3.trans s4
      generalize upd H3 z (.dK []) = H4 at s3 e3 ez ⊢
      refine ⟨C, z, kvs, rfl, rfl, e3, ez, !kvs.isEmpty, rfl, ?_⟩
      have okE : lackB flat = false → Q .non H4 := fun hl => (q _ s3).1 (by rw [jd, hl]; rfl)
      cases hem : kvs.isEmpty with
      | true =>
        refine ite_ff (ite_ff (okE ?_))
        have : ks = [] := List.length_eq_zero_iff.mp (by rw [← klen, List.isEmpty_iff.mp hem]; rfl)
        rw [lack_is h12 k2 k3 (List.Perm.refl ks) (by rw [this]; exact .nil), this]
        rfl
      | false =>
        refine ite_tt ?_
        refine ⟨_, rfl, C, kvs, ks, rfl, .inl e3, k1, by omega, fun ys a1 hperm hasc na1 => ?_⟩
        have s5 := same_new (o := .lst (ys.map V.int)) na1
        have e1 : (upd H4 a1 (.lst (ys.map V.int))) a1 = some (.lst (ys.map V.int)) := upd_same
        replace e3 := s5 _ _ e3
        replace s3 := s3.trans s5
        generalize upd H4 a1 (.lst (ys.map V.int)) = H5 at s3 e3 e1 ⊢
        refine ⟨_, rfl, C, kvs, rfl, e3, _, rfl, RgOk.of_le (by decide) (by omega) (by decide) (by omega), fun a2 na2 => ?_⟩
        have er : rgV 0 ((kvs.length : Nat) : Int) = ((List.range ks.length).map fun n => ((n : Nat) : Int)).map V.int := by
          unfold rgV
          rw [show ((kvs.length : Int) - 0).toNat = ks.length by omega, List.map_map]
          apply List.map_congr_left
          intro n _
          simp
        rw [er]
        have s6 := same_new (o := .lst (((List.range ks.length).map fun n => ((n : Nat) : Int)).map V.int)) na2
        have e2 : (upd H5 a2 (.lst (((List.range ks.length).map fun n => ((n : Nat) : Int)).map V.int))) a2 = some (.lst (((List.range ks.length).map fun n => ((n : Nat) : Int)).map V.int)) := upd_same
        replace e1 := s6 _ _ e1
        replace s3 := s3.trans s6
        generalize upd H5 a2 (.lst (((List.range ks.length).map fun n => ((n : Nat) : Int)).map V.int)) = H6 at s3 e1 e2 ⊢
        refine ⟨.list (ys.map PyData.int), .list (((List.range ks.length).map fun n => ((n : Nat) : Int)).map PyData.int), .lst (SqL.of e1) (dpAll_ints _), .lst (SqL.of e2) (dpAll_ints _), shaped_ints _, shaped_ints _, lackB flat, by rw [eqv_ints, lack_is h12 k2 k3 hperm hasc], ?_⟩
        cases hl : lackB flat with
        | true =>
          refine ite_tt ⟨_, rfl, p, _, rfl, .inl (s3.seq hS), by show 2 ≤ sizeLine; decide, fun t nt => ?_⟩
          rw [hX.1]
          exact (q _ (s3.trans (same_new nt))).2 its.length t (by rw [jd, hl]; rfl) upd_same
        | false => exact ite_ff ((q _ s3).1 (by rw [jd, hl]; rfl))
end
end Sg

/-! _law_bent: stars with something else among them. -/
namespace Sg
open PySem PySem.Spec PyProof.Rows L2 RZ StX Gx
abbrev sBent : Stmt := topS 32
/-- what stands in a row of the laws' own making -/
inductive Fix (m g c : Addr) (H : Hp) : V → Option (List Int) → Prop
  | non : Fix m g c H .non none
  | int (i : Int) : Fix m g c H (.int i) none
  | lst {a : Addr} {xs : List V} (e : H a = some (.lst xs)) (o : Off m g c a) : Fix m g c H (.ref a) none
  | odd {a : Addr} {v : V} (h : ElX v none) (e : H a = some (.tup [v])) : Fix m g c H (.ref a) none
  | tup {a : Addr} {ns : List Int} (e : H a = some (.tup (ns.map V.int))) (hl : ns.length ≤ 60) : Fix m g c H (.ref a) (some ns)
theorem Fix.same {m g c : Addr} {H H' : Hp} {v : V} {o : Option (List Int)} (h : Fix m g c H v o) (s : Same H H') : Fix m g c H' v o := by
  cases h with
  | non => exact .non
  | int i => exact .int i
  | lst e o => exact .lst (s _ _ e) o
  | odd h e => exact .odd h (s _ _ e)
  | tup e hl => exact .tup (s _ _ e) hl
theorem Fix.drawn {m g c : Addr} {H H' : Hp} {v : V} {o : Option (List Int)} {k : Int} (h : Fix m g c H v o) (M : MSt H m g c k) (b : But m g H H') : Fix m g c H' v o := by
  cases h with
  | non => exact .non
  | int i => exact .int i
  | lst e o => exact .lst (b _ _ e o.m o.g) o
  | odd h e => exact .odd h (M.tp b _ _ e)
  | tup e hl => exact .tup (M.tp b _ _ e) hl
theorem Fix.item {K : PySem.W.Frag} {m g c : Addr} {H : Hp} {v : V} {o : Option (List Int)} (h : Fix m g c H v o) : ItemX K H v o := by
  cases h with
  | non => exact .non
  | int i => exact .int i
  | lst e o => exact .lst (SqL.of e)
  | odd h e => exact .odd h (SqT.of e)
  | tup e hl => exact .tup (SqT.of e) hl
def Fixes (m g c : Addr) (H : Hp) (xs : List V) : Prop := ∀ v ∈ xs, ∃ o, Fix m g c H v o
theorem Fixes.same {m g c : Addr} {H H' : Hp} {xs : List V} (h : Fixes m g c H xs) (s : Same H H') : Fixes m g c H' xs := fun v hv => let ⟨o, f⟩ := h v hv; ⟨o, f.same s⟩
theorem Fixes.drawn {m g c : Addr} {H H' : Hp} {xs : List V} {k : Int} (h : Fixes m g c H xs) (M : MSt H m g c k) (b : But m g H H') : Fixes m g c H' xs := fun v hv => let ⟨o, f⟩ := h v hv; ⟨o, f.drawn M b⟩
theorem Fixes.app {m g c : Addr} {H : Hp} {xs ys : List V} (h : Fixes m g c H xs) (h2 : Fixes m g c H ys) : Fixes m g c H (xs ++ ys) := fun v hv => (List.mem_append.mp hv).elim (h v) (h2 v)
theorem Fixes.cut {m g c : Addr} {H : Hp} {xs : List V} (h : Fixes m g c H xs) (lo hi : Option Int) : Fixes m g c H (cutV xs lo hi) := fun v hv => by
  unfold cutV at hv
  exact h v (List.mem_of_mem_drop (List.mem_of_mem_take hv))
theorem Fixes.one {m g c : Addr} {H : Hp} {v : V} {o : Option (List Int)} (h : Fix m g c H v o) : Fixes m g c H [v] := fun u hu => by
  rw [List.mem_singleton.mp hu]; exact ⟨o, h⟩
theorem Fixes.items {K : PySem.W.Frag} {m g c : Addr} {H : Hp} : ∀ {xs : List V}, Fixes m g c H xs → ∃ its, Items K H xs its ∧ its.length = xs.length
  | [], _ => ⟨[], ⟨rfl, fun i o e => by simp at e⟩, rfl⟩
  | v :: xs, h => by
    obtain ⟨its, hI, hl⟩ := Fixes.items (K := K) fun u hu => h u (List.mem_cons_of_mem _ hu)
    obtain ⟨o, hf⟩ := h v List.mem_cons_self
    refine ⟨o :: its, ⟨by rw [List.length_cons, List.length_cons, hl], fun i u e => ?_⟩, by rw [List.length_cons, List.length_cons, hl]⟩
    cases i with
    | zero => cases e; exact ⟨v, rfl, hf.item⟩
    | succ i => exact hI.2 i u e
theorem setB_len {s : List Int} (h : setB 12 s = true) : s.length ≤ 12 := by
  have up : ∀ (i : Nat) (x : Int), s[i]? = some x → (i : Int) ≤ x := by
    intro i
    induction i with
    | zero => intro x e; exact (setB_mem h (List.mem_of_getElem? e)).1
    | succ i ih =>
      intro x e
      have hi := (List.getElem?_eq_some_iff.mp e).1
      have g : s[i]? = some s[i] := List.getElem?_eq_getElem (by omega)
      have := ih _ g
      have := setB_ltm h (i + 1) i _ _ (by omega) g e
      omega
  by_cases z : s.length ≤ 12
  · exact z
  · have g : s[12]? = some s[12] := List.getElem?_eq_getElem (by omega)
    have h1 := up 12 _ g
    have h2 := (setB_mem h (List.mem_of_getElem? g)).2
    omega
theorem len_two : ∀ (n : Nat) (l : List Int), (∀ x ∈ l, 0 ≤ x ∧ x < (n : Int)) → (∀ t, l.count t ≤ 2) → l.length ≤ 2 * n
  | 0, [], _, _ => Nat.le_refl _
  | 0, x :: r, h, _ => by have := h x List.mem_cons_self; omega
  | n + 1, l, h, c => by
    have h1 := len_two n (l.filter fun x => !(x == (n : Int))) (fun x hx => by
      obtain ⟨hx1, hx2⟩ := List.mem_filter.mp hx
      have := h x hx1
      have : x ≠ (n : Int) := fun z => by rw [z] at hx2; simp at hx2
      omega) (fun t => Nat.le_trans (List.Sublist.count_le t List.filter_sublist) (c t))
    have h2 := c (n : Int)
    have h3 := List.length_eq_countP_add_countP (fun x : Int => x == (n : Int)) (l := l)
    rw [List.count_eq_countP] at h2
    rw [← List.countP_eq_length_filter] at h1
    have h4 : l.countP (fun a => decide ¬(a == (n : Int)) = true) = l.countP fun x => !(x == (n : Int)) := by
      apply List.countP_congr
      intro x _
      cases x == (n : Int) <;> simp
    rw [h4] at h3
    omega
theorem flat_len : ∀ {ss : List (List Int)}, (∀ s ∈ ss, s ≠ []) → ss.length ≤ ss.flatten.length
  | [], _ => Nat.le_refl _
  | s :: r, h => by
    have := flat_len fun u hu => h u (List.mem_cons_of_mem _ hu)
    have h1 := List.length_pos_iff.mpr (h s List.mem_cons_self)
    rw [List.flatten_cons, List.length_append, List.length_cons]
    omega
theorem Good.len {ss : List (List Int)} {k : Nat} (h : Good ss k) : ss.length ≤ 24 := by
  have h1 := flat_len h.ne
  have h2 := len_two 12 ss.flatten (fun x hx => by
    obtain ⟨s, hs, hx⟩ := List.mem_flatten.mp hx
    exact setB_mem (h.st s hs) hx) h.two
  omega
/-- the stars' own list at L, and what else has been made -/
structure Bn (H0 H : Hp) (m g c : Addr) (k : Int) (L : Addr) (ys acc : List V) : Prop where
  M : MSt H m g c k
  b : But m g H0 H
  oL : Off m g c L
  eL : H L = some (.lst ys)
  F : Fixes m g c H ys
  A : Fixes m g c H acc
section
variable {H0 H H' : Hp} {m g c L : Addr} {k k' : Int} {ys acc : List V}
theorem Bn.same (B : Bn H0 H m g c k L ys acc) (s : Same H H') : Bn H0 H' m g c k L ys acc :=
  ⟨B.M.same s, B.b.trans (But.of s), B.oL, s _ _ B.eL, B.F.same s, B.A.same s⟩
theorem Bn.drawn (B : Bn H0 H m g c k L ys acc) (M' : MSt H' m g c k') (b' : But m g H H') : Bn H0 H' m g c k' L ys acc :=
  ⟨M', B.b.trans b', B.oL, b' _ _ B.eL B.oL.m B.oL.g, B.F.drawn B.M b', B.A.drawn B.M b'⟩
theorem Bn.atom {v : V} {o : Option (List Int)} (B : Bn H0 H m g c k L ys acc) (f : Fix m g c H v o) : Bn H0 H m g c k L ys (acc ++ [v]) :=
  { B with A := B.A.app (.one f) }
theorem Bn.new {t : Addr} {o : HO} {it : Option (List Int)} (B : Bn H0 H m g c k L ys acc) (n : H t = none) (f : Fix m g c (upd H t o) (.ref t) it) : Bn H0 (upd H t o) m g c k L ys (acc ++ [.ref t]) :=
  (B.same (same_new n)).atom f
theorem Bn.free (B : Bn H0 H m g c k L ys acc) {p : Addr} (n : H p = none) : H0 p = none := by
  cases e : H0 p with
  | none => rfl
  | some o =>
    have := B.b p o e (B.M.off n).m (B.M.off n).g
    rw [n] at this
    cases this
end
section
variable {P : Program} {w : World} {K : PySem.W.Frag} {mg : Str → Option Value} {base : Heap}
def spBent (K : PySem.W.Frag) : Sp := fun vs H Q _ => ∃ (m g c q : Addr) (k : Int) (ys : List V) (ss : List (List Int)) (n : Nat), vs = [.ref m, .ref q] ∧ MSt H m g c k ∧ k < 800000 ∧ H q = some (.tup ys) ∧ TupsAt H ys ss ∧ Good ss n ∧
  ∀ (H' : Hp) (r : Addr) (zs : List V) (k' : Int), k ≤ k' → k' ≤ k + 10 → MSt H' m g c k' → But m g H H' → H r = none → Off m g c r → H' r = some (.lst zs) → Fixes m g c H' zs → zs.length ≤ 60 → Q (.ref r) H'
theorem scBent : FnScope ["m", "stars", "at", "found", "odds", "way"] ["m", "stars"] (defScope sBent) := ⟨rfl, rfl, rfl, by decide +kernel, rfl, by decide +kernel, by decide +kernel⟩
theorem ok_bent {f fD : Addr} {fd fdD : FuncData} (F : Fun K "_law_bent" "_law_bent" sBent f fd) (GD : FnOk P w K mg base CX0 2 fD fdD ["m", "limit"] spDraw) (gD : mg "_law_draw" = some (.ref fD)) (kD : PySem.W.keepIn K (.ref fD) = true) (bD : Binds K fdD ["m", "limit"] [])
    (mli : mg "list" = none) (mle : mg "len" = none) : FnOk P w K mg base CX0 3 f fd ["m", "stars"] (spBent K) := by
  refine F.ok scBent (fun vs H Q E h => ?_) (fun cdv A outer s H vs Q E hr h => ?_)
  · obtain ⟨m, g, c, q, k, ys, ss, n, rfl, _⟩ := h
    rfl
  · obtain ⟨m, g, c, q, k, ys, ss, n, rfl, M, hk, eq, T, hG, hQ⟩ := h
    have hlen := hG.len
    have hys := T.1
    refine ⟨_, pss_cons (ps_par (i := 2) (j := 3) (by rfl) scBent.nd rfl rfl (by decide) rfl rfl (pa_cons (pe_call GD (hr.mono (by decide)) (by rfl) gD kD bD .nil pass0 (pa_cons (pv 0) (pa_cons (pe_op op_add (pe_callB call_len_seq (by rfl) mle PySem.boot_len (pa_cons (pv 1) pa_nil)) pe_int) pa_nil))) (pa_cons (pe_callTy call_list_of (by rfl) mli (by decide +kernel) (pa_cons (pv 1) pa_nil)) pa_nil)) (by rfl))
      (pss_cons (ps_set (i := 4) scBent.nd rfl (.inl rfl) (pe_lst (pa_cons pe_non (pa_cons (pe_tup pa_nil) (pa_cons (pe_tup (pa_cons pe_int pa_nil)) (pa_cons (pe_tup (pa_cons (pe_un un_neg pe_int) pa_nil)) (pa_cons (pe_lst (pa_cons pe_int pa_nil)) (pa_cons (pe_tup (pa_cons pe_int (pa_cons pe_int pa_nil))) (pa_cons (pe_tup (pa_cons pe_int (pa_cons pe_int pa_nil))) (pa_cons (pe_tup (pa_cons pe_bl pa_nil)) (pa_cons (pe_tup (pa_cons pe_str pa_nil)) (pa_cons pe_int (pa_cons (pe_tup (pa_cons pe_int pa_nil)) (pa_cons (pe_tup (pa_cons pe_int pa_nil)) (pa_cons (pe_tup (pa_cons pe_int (pa_cons pe_int pa_nil))) pa_nil)))))))))))))))
      (pss_cons (ps_set (i := 5) scBent.nd rfl (.inl rfl) (pe_call GD (hr.mono (by decide)) (by rfl) gD kD bD .nil pass0 (pa_cons (pv 0) (pa_cons pe_int pa_nil))))
      (pss_cons (ps_if (pt_cmpR op_eq (pv 5) pe_int (nomark _)) (pss_one (ps_ret (pe_op op_cat (pe_op op_cat (pe_slice sl_list (pv 3) po_none (po_some (pv 2))) (pe_lst (pa_cons (pe_ix ix_list (pv 4) (pe_call GD (hr.mono (by decide)) (by rfl) gD kD bD .nil pass0 (pa_cons (pv 0) (pa_cons pe_int pa_nil))) (fun _ _ => rfl)) pa_nil))) (pe_slice sl_list (pv 3) (po_some (pv 2)) po_none)))) pss_nil)
      (pss_cons (ps_if (pt_cmpR op_eq (pv 5) pe_int (nomark _)) (pss_one (ps_ret (pe_revL (pv 3)))) pss_nil)
      (pss_cons (ps_if (pt_cmpR op_eq (pv 5) pe_int (nomark _)) (pss_one (ps_ret (pe_op op_cat (pe_slice sl_list (pv 3) po_none (po_some (pv 2))) (pe_slice sl_list (pv 3) (po_some (pe_op op_add (pv 2) pe_int)) po_none)))) pss_nil)
      (pss_one (ps_ret (pe_op op_cat (pe_op op_cat (pe_slice sl_list (pv 3) po_none (po_some (pv 2))) (pe_lst (pa_cons (pe_ix ix_list (pv 4) (pe_call GD (hr.mono (by decide)) (by rfl) gD kD bD .nil pass0 (pa_cons (pv 0) (pa_cons pe_int pa_nil))) (fun _ _ => rfl)) (pa_cons pe_non pa_nil)))) (pe_slice sl_list (pv 3) (po_some (pe_op op_add (pv 2) pe_int)) po_none))))))))), ?_⟩
    -- at, found
    refine ⟨_, rfl, _, rfl, q, _, rfl, .inr (SqT.of eq), _, _, rfl, rfl, ?_⟩
    refine ⟨m, g, c, k, _, rfl, M, by omega, by omega, by omega, fun a H1 a0 a1 M1 b1 => ?_⟩
    have tp := M.tp b1
    have eq1 := tp _ _ eq
    have T1 := T.tp tp
    refine ⟨_, rfl, q, ys, rfl, .inr (SqT.of eq1), fun L nL => ?_⟩
    refine ⟨_, _, rfl, ?_⟩
    have fx : Fixes m g c H1 ys := fun v hv => by
      obtain ⟨j, hj, ej⟩ := List.mem_iff_getElem.mp hv
      have gs : ss[j]? = some (ss[j]'(by omega)) := List.getElem?_eq_getElem _
      obtain ⟨t, h1, h2⟩ := T1.2 j _ gs
      rw [List.getElem?_eq_getElem hj, ej] at h1
      cases h1
      exact ⟨_, .tup h2 (Nat.le_trans (setB_len (hG.st _ (List.getElem_mem _))) (by decide))⟩
    have B : Bn H (upd H1 L (.lst ys)) m g c (k + 1) L ys [] := ⟨M1.same (same_new nL), b1.trans (But.of (same_new nL)), M1.off nL, upd_same, fx.same (same_new nL), fun v hv => by simp at hv⟩
    generalize upd H1 L (.lst ys) = H2 at B ⊢
    -- odds
    have B := B.atom .non
    refine ⟨by show 0 ≤ sizeLine; decide, fun t0 nt0 => ?_⟩
    have B := B.new (o := .tup []) nt0 (.tup (ns := []) upd_same (by decide))
    generalize upd _ t0 (.tup []) = HH0 at B ⊢
    refine ⟨by show 1 ≤ sizeLine; decide, fun t1 nt1 => ?_⟩
    have B := B.new (o := .tup [V.int (12)]) nt1 (.tup (ns := [(12 : Int)]) upd_same (by decide))
    generalize upd _ t1 (.tup [V.int (12)]) = HH1 at B ⊢
    refine ⟨_, rfl, by show 1 ≤ sizeLine; decide, fun t2 nt2 => ?_⟩
    have B := B.new (o := .tup [V.int (-1)]) nt2 (.tup (ns := [(-1 : Int)]) upd_same (by decide))
    generalize upd _ t2 (.tup [V.int (-1)]) = HH2 at B ⊢
    refine ⟨by show 1 ≤ sizeLine; decide, fun t3 nt3 => ?_⟩
    have B := B.new (o := .lst [V.int (0)]) nt3 (.lst upd_same (B.M.off nt3))
    generalize upd _ t3 (.lst [V.int (0)]) = HH3 at B ⊢
    refine ⟨by show 2 ≤ sizeLine; decide, fun t4 nt4 => ?_⟩
    have B := B.new (o := .tup [V.int (1), V.int (0)]) nt4 (.tup (ns := [(1 : Int), (0 : Int)]) upd_same (by decide))
    generalize upd _ t4 (.tup [V.int (1), V.int (0)]) = HH4 at B ⊢
    refine ⟨by show 2 ≤ sizeLine; decide, fun t5 nt5 => ?_⟩
    have B := B.new (o := .tup [V.int (0), V.int (0)]) nt5 (.tup (ns := [(0 : Int), (0 : Int)]) upd_same (by decide))
    generalize upd _ t5 (.tup [V.int (0), V.int (0)]) = HH5 at B ⊢
    refine ⟨by show 1 ≤ sizeLine; decide, fun t6 nt6 => ?_⟩
    have B := B.new (o := .tup [V.bl true]) nt6 (.odd (.bl true) upd_same)
    generalize upd _ t6 (.tup [V.bl true]) = HH6 at B ⊢
    refine ⟨by show 1 ≤ sizeLine; decide, fun t7 nt7 => ?_⟩
    have B := B.new (o := .tup [V.str "0"]) nt7 (.odd (.str "0") upd_same)
    generalize upd _ t7 (.tup [V.str "0"]) = HH7 at B ⊢
    have B := B.atom (.int 5)
    refine ⟨by show 1 ≤ sizeLine; decide, fun t8 nt8 => ?_⟩
    have B := B.new (o := .tup [V.int (0)]) nt8 (.tup (ns := [(0 : Int)]) upd_same (by decide))
    generalize upd _ t8 (.tup [V.int (0)]) = HH8 at B ⊢
    refine ⟨by show 1 ≤ sizeLine; decide, fun t9 nt9 => ?_⟩
    have B := B.new (o := .tup [V.int (11)]) nt9 (.tup (ns := [(11 : Int)]) upd_same (by decide))
    generalize upd _ t9 (.tup [V.int (11)]) = HH9 at B ⊢
    refine ⟨by show 2 ≤ sizeLine; decide, fun t10 nt10 => ?_⟩
    have B := B.new (o := .tup [V.int (0), V.int (1)]) nt10 (.tup (ns := [(0 : Int), (1 : Int)]) upd_same (by decide))
    generalize upd _ t10 (.tup [V.int (0), V.int (1)]) = HH10 at B ⊢
    refine ⟨by show 13 ≤ sizeLine; decide, fun O nO => ?_⟩
    have oO := B.M.off nO
    simp only [List.nil_append, List.cons_append] at B
    obtain ⟨acc, eacc⟩ : ∃ acc, acc = [V.non, .ref t0, .ref t1, .ref t2, .ref t3, .ref t4, .ref t5, .ref t6, .ref t7, .int 5, .ref t8, .ref t9, .ref t10] := ⟨_, rfl⟩
    rw [← eacc] at B
    have lacc : acc.length = 13 := by rw [eacc]; rfl
    have B := B.same (same_new (o := .lst acc) nO)
    have eO : (upd HH10 O (.lst acc)) O = some (.lst acc) := upd_same
    have eX : (upd HH10 O (.lst acc)) = (upd HH10 O (.lst [V.non, .ref t0, .ref t1, .ref t2, .ref t3, .ref t4, .ref t5, .ref t6, .ref t7, .int 5, .ref t8, .ref t9, .ref t10])) := by rw [eacc]
    rw [← eX]
    generalize upd HH10 O (.lst acc) = H3 at B eO ⊢
    clear eX
    -- way
    refine ⟨_, rfl, m, g, c, _, _, rfl, B.M, by omega, by decide, by decide, fun way H4 w0 w1 M4 b4 => ?_⟩
    have B := B.drawn M4 b4
    replace eO := b4 _ _ eO oO.m oO.g
    have sz : ∀ {i j : Nat}, i ≤ 100 → j ≤ 100 → i + j ≤ sizeLine := fun h1 h2 => Nat.le_of_lt (small1000 (by omega))
    have pick : ∀ {H5 : Hp} {k5 : Int} {r : Int}, Bn H H5 m g c k5 L ys acc → 0 ≤ r → r < 13 → ∃ (u : V) (o : Option (List Int)), atI acc r = some u ∧ Fix m g c H5 u o := fun {H5 k5 r} B r0 r1 => by
      obtain ⟨j, rfl⟩ := Int.eq_ofNat_of_zero_le r0
      have hj : j < acc.length := by omega
      obtain ⟨o, ho⟩ := B.A _ (List.getElem_mem hj)
      exact ⟨_, o, atI_nat (List.getElem?_eq_getElem hj), ho⟩
    have fin : ∀ {H5 : Hp} {k5 : Int} {acc2 zs : List V} {R : Addr}, Bn H H5 m g c k5 L ys acc2 → H5 R = none → Fixes m g c H5 zs → k ≤ k5 → k5 ≤ k + 10 → zs.length ≤ 60 → Q (.ref R) (upd H5 R (.lst zs)) := fun B nR f h1 h2 hl =>
      hQ _ _ _ _ h1 h2 (B.M.same (same_new nR)) (B.b.trans (But.of (same_new nR))) (B.free nR) (B.M.off nR) upd_same (f.same (same_new nR)) hl
    have cl : ∀ lo hi, (cutV ys lo hi).length ≤ 24 := fun lo hi => Nat.le_trans (cutV_length ys lo hi) (by omega)
    refine ⟨_, rfl, rfl, _, rfl, ite2 (fun _ => ?_) (fun _ => ?_)⟩
    · -- found[:at] + [odds[..]] + found[at:]
      refine ⟨_, rfl, _, rfl, _, rfl, L, ys, rfl, SqL.of B.eL, fun p np => ?_⟩
      have op := B.M.off np
      have B := B.same (same_new (o := .lst (cutV ys none (some a))) np)
      have ep : (upd H4 p (.lst (cutV ys none (some a)))) p = some (.lst (cutV ys none (some a))) := upd_same
      replace eO := same_new (o := .lst (cutV ys none (some a))) np _ _ eO
      generalize upd H4 p (.lst (cutV ys none (some a))) = H5 at B ep eO ⊢
      refine ⟨_, rfl, _, rfl, m, g, c, _, _, rfl, B.M, by omega, by decide, by decide, fun r H6 r0 r1 M6 b6 => ?_⟩
      have B := B.drawn M6 b6
      replace eO := b6 _ _ eO oO.m oO.g
      replace ep := b6 _ _ ep op.m op.g
      obtain ⟨u, o, hu, fu⟩ := pick B r0 r1
      refine ⟨O, _, r, u, rfl, rfl, SqL.of eO, hu, ?_⟩
      refine ⟨by show 1 ≤ sizeLine; decide, fun l nl => ?_⟩
      have B := (B.atom fu).same (same_new (o := .lst [u]) nl)
      have el : (upd H6 l (.lst [u])) l = some (.lst [u]) := upd_same
      replace ep := same_new (o := .lst [u]) nl _ _ ep
      replace fu := fu.same (same_new (o := .lst [u]) nl)
      generalize upd H6 l (.lst [u]) = H7 at B el ep fu ⊢
      refine ⟨p, l, _, _, rfl, rfl, ep, el, sz (Nat.le_trans (cl _ _) (by decide)) (by show 1 ≤ 100; decide), fun R nR => ?_⟩
      have B := B.same (same_new (o := .lst (cutV ys none (some a) ++ [u])) nR)
      have eR : (upd H7 R (.lst (cutV ys none (some a) ++ [u]))) R = some (.lst (cutV ys none (some a) ++ [u])) := upd_same
      replace fu := fu.same (same_new (o := .lst (cutV ys none (some a) ++ [u])) nR)
      generalize upd H7 R (.lst (cutV ys none (some a) ++ [u])) = H8 at B eR fu ⊢
      refine ⟨_, rfl, _, rfl, _, rfl, L, ys, rfl, SqL.of B.eL, fun p2 np2 => ?_⟩
      have B := B.same (same_new (o := .lst (cutV ys (some a) none)) np2)
      have ep2 : (upd H8 p2 (.lst (cutV ys (some a) none))) p2 = some (.lst (cutV ys (some a) none)) := upd_same
      replace eR := same_new (o := .lst (cutV ys (some a) none)) np2 _ _ eR
      replace fu := fu.same (same_new (o := .lst (cutV ys (some a) none)) np2)
      generalize upd H8 p2 (.lst (cutV ys (some a) none)) = H9 at B ep2 eR fu ⊢
      have c1 := cl none (some a)
      have c2 := cl (some a) none
      refine ⟨R, p2, _, _, rfl, rfl, eR, ep2, sz (by rw [List.length_append, List.length_singleton]; omega) (by omega), fun R2 nR2 => ?_⟩
      exact fin B nR2 (((B.F.cut _ _).app (.one fu)).app (B.F.cut _ _)) (by omega) (by omega) (by rw [List.length_append, List.length_append, List.length_singleton]; omega)
    refine ⟨_, rfl, rfl, _, rfl, ite2 (fun _ => ?_) (fun _ => ?_)⟩
    · -- found[::-1]
      refine ⟨_, rfl, L, ys, rfl, SqL.of B.eL, fun R nR => ?_⟩
      exact fin B nR (fun v hv => B.F v (List.mem_reverse.mp hv)) (by omega) (by omega) (by rw [List.length_reverse]; omega)
    refine ⟨_, rfl, rfl, _, rfl, ite2 (fun _ => ?_) (fun _ => ?_)⟩
    · -- found[:at] + found[at + 1:]
      refine ⟨_, rfl, _, rfl, _, rfl, L, ys, rfl, SqL.of B.eL, fun p np => ?_⟩
      have B := B.same (same_new (o := .lst (cutV ys none (some a))) np)
      have ep : (upd H4 p (.lst (cutV ys none (some a)))) p = some (.lst (cutV ys none (some a))) := upd_same
      generalize upd H4 p (.lst (cutV ys none (some a))) = H5 at B ep ⊢
      refine ⟨_, rfl, _, rfl, _, _, rfl, rfl, _, rfl, L, ys, rfl, SqL.of B.eL, fun p2 np2 => ?_⟩
      have B := B.same (same_new (o := .lst (cutV ys (some (a + 1)) none)) np2)
      have ep2 : (upd H5 p2 (.lst (cutV ys (some (a + 1)) none))) p2 = some (.lst (cutV ys (some (a + 1)) none)) := upd_same
      replace ep := same_new (o := .lst (cutV ys (some (a + 1)) none)) np2 _ _ ep
      generalize upd H5 p2 (.lst (cutV ys (some (a + 1)) none)) = H6 at B ep ep2 ⊢
      have c1 := cl none (some a)
      have c2 := cl (some (a + 1)) none
      refine ⟨p, p2, _, _, rfl, rfl, ep, ep2, sz (by omega) (by omega), fun R2 nR2 => ?_⟩
      exact fin B nR2 ((B.F.cut _ _).app (B.F.cut _ _)) (by omega) (by omega) (by rw [List.length_append]; omega)
    · -- found[:at] + [odds[..], None] + found[at + 1:]
      refine ⟨_, rfl, _, rfl, _, rfl, L, ys, rfl, SqL.of B.eL, fun p np => ?_⟩
      have op := B.M.off np
      have B := B.same (same_new (o := .lst (cutV ys none (some a))) np)
      have ep : (upd H4 p (.lst (cutV ys none (some a)))) p = some (.lst (cutV ys none (some a))) := upd_same
      replace eO := same_new (o := .lst (cutV ys none (some a))) np _ _ eO
      generalize upd H4 p (.lst (cutV ys none (some a))) = H5 at B ep eO ⊢
      refine ⟨_, rfl, _, rfl, m, g, c, _, _, rfl, B.M, by omega, by decide, by decide, fun r H6 r0 r1 M6 b6 => ?_⟩
      have B := B.drawn M6 b6
      replace eO := b6 _ _ eO oO.m oO.g
      replace ep := b6 _ _ ep op.m op.g
      obtain ⟨u, o, hu, fu⟩ := pick B r0 r1
      refine ⟨O, _, r, u, rfl, rfl, SqL.of eO, hu, ?_⟩
      refine ⟨by show 2 ≤ sizeLine; decide, fun l nl => ?_⟩
      have B := (B.atom fu).same (same_new (o := .lst [u, .non]) nl)
      have el : (upd H6 l (.lst [u, .non])) l = some (.lst [u, .non]) := upd_same
      replace ep := same_new (o := .lst [u, .non]) nl _ _ ep
      replace fu := fu.same (same_new (o := .lst [u, .non]) nl)
      generalize upd H6 l (.lst [u, .non]) = H7 at B el ep fu ⊢
      refine ⟨p, l, _, _, rfl, rfl, ep, el, sz (Nat.le_trans (cl _ _) (by decide)) (by show 2 ≤ 100; decide), fun R nR => ?_⟩
      have B := B.same (same_new (o := .lst (cutV ys none (some a) ++ [u, .non])) nR)
      have eR : (upd H7 R (.lst (cutV ys none (some a) ++ [u, .non]))) R = some (.lst (cutV ys none (some a) ++ [u, .non])) := upd_same
      replace fu := fu.same (same_new (o := .lst (cutV ys none (some a) ++ [u, .non])) nR)
      generalize upd H7 R (.lst (cutV ys none (some a) ++ [u, .non])) = H8 at B eR fu ⊢
      refine ⟨_, rfl, _, rfl, _, _, rfl, rfl, _, rfl, L, ys, rfl, SqL.of B.eL, fun p2 np2 => ?_⟩
      have B := B.same (same_new (o := .lst (cutV ys (some (a + 1)) none)) np2)
      have ep2 : (upd H8 p2 (.lst (cutV ys (some (a + 1)) none))) p2 = some (.lst (cutV ys (some (a + 1)) none)) := upd_same
      replace eR := same_new (o := .lst (cutV ys (some (a + 1)) none)) np2 _ _ eR
      replace fu := fu.same (same_new (o := .lst (cutV ys (some (a + 1)) none)) np2)
      generalize upd H8 p2 (.lst (cutV ys (some (a + 1)) none)) = H9 at B ep2 eR fu ⊢
      have c1 := cl none (some a)
      have c2 := cl (some (a + 1)) none
      refine ⟨R, p2, _, _, rfl, rfl, eR, ep2, sz (by rw [List.length_append]; show _ + 2 ≤ _; omega) (by omega), fun R2 nR2 => ?_⟩
      exact fin B nR2 (((B.F.cut _ _).app (Fixes.app (xs := [u]) (ys := [.non]) (.one fu) (.one .non))).app (B.F.cut _ _)) (by omega) (by omega) (by rw [List.length_append, List.length_append]; show _ + 2 + _ ≤ 60; omega)
end
end Sg

/-! What stars look like in text; len of an own class; what lists alone may change. -/
namespace Sg
open PySem PySem.Spec PyProof.Rows L2 RZ StX Gx
theorem piled_le (B : Nat) : ∀ ts : List Str, (∀ t ∈ ts, t.length ≤ B) → piled ts ≤ ts.length * (B + 2)
  | [], _ => by simp [piled]
  | t :: r, h => by
    have h1 := piled_le B r fun u hu => h u (List.mem_cons_of_mem _ hu)
    have h2 := h t List.mem_cons_self
    have h3 : piled (t :: r) = t.length + 2 + piled r := by simp [piled]
    rw [h3, List.length_cons, Nat.add_mul]
    omega
theorem tup_len {ts : List Str} {n B : Nat} (hl : ts.length ≤ n) (h : ∀ t ∈ ts, t.length ≤ B) : (tupleText ts).length ≤ n * (B + 2) + 3 := by
  have h1 := piled_le B ts h
  have h2 : ts.length * (B + 2) ≤ n * (B + 2) := Nat.mul_le_mul_right _ hl
  have h3 : (Str.join ", " ts).length ≤ piled ts := by
    cases ts with
    | nil => exact Nat.zero_le _
    | cons t r =>
      have := join_length_add (t :: r) (by simp)
      omega
  unfold tupleText
  rw [strLen_append, strLen_append]
  have h4 : (("(" : String) : Str).length = 1 := by decide +kernel
  have h5 : ((if (ts.length == 1) = true then ",)" else ")" : String) : Str).length ≤ 2 := by
    cases ts.length == 1
    · decide +kernel
    · decide +kernel
  omega
theorem int_shown {i : Int} (h0 : 0 ≤ i) (h1 : i < 13) : PyData.showable (.int i) = true ∧ (PyData.shown (.int i)).length ≤ 2 := by
  obtain ⟨n, rfl⟩ := Int.eq_ofNat_of_zero_le h0
  have hn : n < 13 := by omega
  have all : ∀ m : Fin 13, PyData.showable (.int ((m.val : Nat) : Int)) = true ∧ (PyData.shown (.int ((m.val : Nat) : Int))).length ≤ 2 := by decide +kernel
  exact all ⟨n, hn⟩
theorem shownAll_map (ds : List PyData) : PyData.shownAll ds = ds.map PyData.shown := by
  induction ds with
  | nil => rfl
  | cons d r ih => show PyData.shown d :: PyData.shownAll r = _; rw [ih]; rfl
theorem showableAll_of {ds : List PyData} (h : ∀ d ∈ ds, PyData.showable d = true) : PyData.showableAll ds = true := by
  induction ds with
  | nil => rfl
  | cons d r ih =>
    show (PyData.showable d && PyData.showableAll r) = true
    rw [h d List.mem_cons_self, ih fun u hu => h u (List.mem_cons_of_mem _ hu)]; rfl
theorem star_shown {s : List Int} (h : setB 12 s = true) : (datS s).showable = true ∧ (datS s).shown.length ≤ 51 := by
  have hl := setB_len h
  refine ⟨showableAll_of fun d hd => ?_, ?_⟩
  · obtain ⟨i, hi, rfl⟩ := List.mem_map.mp hd
    obtain ⟨h0, h1⟩ := setB_mem h hi
    exact (int_shown h0 (by omega)).1
  · show (tupleText (PyData.shownAll (s.map PyData.int))).length ≤ 51
    rw [shownAll_map]
    refine tup_len (n := 12) (B := 2) (by rw [List.length_map, List.length_map]; exact hl) fun t ht => ?_
    obtain ⟨d, hd, rfl⟩ := List.mem_map.mp ht
    obtain ⟨i, hi, rfl⟩ := List.mem_map.mp hd
    obtain ⟨h0, h1⟩ := setB_mem h hi
    exact (int_shown h0 (by omega)).2
theorem dat_shown {ss : List (List Int)} {k : Nat} (h : Good ss k) : (dat ss).showable = true ∧ (dat ss).shown.length ≤ 1300 := by
  have hl := h.len
  refine ⟨showableAll_of fun d hd => ?_, ?_⟩
  · obtain ⟨s, hs, rfl⟩ := List.mem_map.mp hd
    exact (star_shown (h.st s hs)).1
  · show (tupleText (PyData.shownAll (ss.map datS))).length ≤ 1300
    rw [shownAll_map]
    refine Nat.le_trans (tup_len (n := 24) (B := 51) (by rw [List.length_map, List.length_map]; exact hl) fun t ht => ?_) (by decide)
    obtain ⟨d, hd, rfl⟩ := List.mem_map.mp ht
    obtain ⟨s, hs, rfl⟩ := List.mem_map.mp hd
    exact (star_shown (h.st s hs)).2
theorem dat_depth (ss : List (List Int)) : (dat ss).depth ≤ 2 := by
  have h2 : ∀ ss : List (List Int), PyData.depthAll (ss.map datS) ≤ 1 := by
    intro ss
    induction ss with
    | nil => exact Nat.zero_le _
    | cons s r ih =>
      show max (PyData.depthAll (s.map PyData.int) + 1) (PyData.depthAll (r.map datS)) ≤ 1
      rw [depth_ints]
      omega
  show PyData.depthAll (ss.map datS) + 1 ≤ 2
  have := h2 ss
  omega
theorem str_one : ((("[" : String) : Str)).length = 1 ∧ ((("]" : String) : Str)).length = 1 ∧ (((", " : String) : Str)).length = 2 := by decide +kernel
theorem shows_one {ss : List (List Int)} {k : Nat} (h : Good ss k) : shows (.list [dat ss]) = true := by
  obtain ⟨h1, h2⟩ := dat_shown h
  have h3 := dat_depth ss
  unfold shows
  simp only [Bool.and_eq_true, decide_eq_true_eq]
  refine ⟨⟨?_, ?_⟩, ?_⟩
  · show ((dat ss).showable && true) = true
    rw [h1]; rfl
  · show max (dat ss).depth 0 + 1 ≤ 60
    omega
  · show (listText [(dat ss).shown]).length ≤ sizeLine
    obtain ⟨z1, z2, z3⟩ := str_one
    have : (listText [(dat ss).shown]).length = 1 + (dat ss).shown.length + 1 := by
      show ((("[" : String) : Str) ++ (dat ss).shown ++ (("]" : String) : Str)).length = _
      rw [strLen_append, strLen_append, z1, z2]
    rw [this, sizeLine_eq]
    omega
theorem shows_two {ss : List (List Int)} {k : Nat} (h : Good ss k) : shows (.list [dat ss, .int k]) = true := by
  obtain ⟨h1, h2⟩ := dat_shown h
  have h3 := dat_depth ss
  have hk := h.k12
  obtain ⟨h4, h5⟩ := int_shown (i := (k : Int)) (by omega) (by omega)
  unfold shows
  simp only [Bool.and_eq_true, decide_eq_true_eq]
  refine ⟨⟨?_, ?_⟩, ?_⟩
  · show ((dat ss).showable && (PyData.showable (.int k) && true)) = true
    rw [h1, h4]; rfl
  · show max (dat ss).depth (max 0 0) + 1 ≤ 60
    omega
  · show (listText [(dat ss).shown, PyData.shown (.int k)]).length ≤ sizeLine
    obtain ⟨z1, z2, z3⟩ := str_one
    have : (listText [(dat ss).shown, PyData.shown (.int k)]).length = 1 + (dat ss).shown.length + 2 + (PyData.shown (.int k)).length + 1 := by
      show ((("[" : String) : Str) ++ (dat ss).shown ++ ((", " : String) : Str) ++ PyData.shown (.int k) ++ (("]" : String) : Str)).length = _
      rw [strLen_append, strLen_append, strLen_append, strLen_append, z1, z2, z3]
    rw [this, sizeLine_eq]
    omega
theorem shows_bad {n : Nat} (h : n ≤ 100) : shows (.tuple [.str "stars", .int n]) = true := by
  have all : ∀ m : Fin 101, shows (.tuple [.str "stars", .int ((m.val : Nat) : Int)]) = true := by decide +kernel
  exact all ⟨n, by omega⟩
/-! ### what is kept where lists and dicts change -/
def Lk (H H' : Hp) : Prop := ∀ b o, H b = some o → (∀ xs, o ≠ .lst xs) → (∀ kvs, o ≠ .dK kvs) → H' b = some o
theorem Lk.same {H H' : Hp} (s : Same H H') : Lk H H' := fun b o e _ _ => s b o e
theorem Lk.trans {H H1 H2 : Hp} (a : Lk H H1) (b : Lk H1 H2) : Lk H H2 := fun c o e n1 n2 => b c o (a c o e n1 n2) n1 n2
theorem Lk.upd {H : Hp} {D : Addr} {xs : List V} {o : HO} (e : H D = some (.lst xs)) : Lk H (upd H D o) := fun b u q n1 _ => by
  rw [upd_ne fun z => by rw [z, e] at q; exact n1 _ (Option.some.inj q).symm]
  exact q
theorem MSt.lk {H H' : Hp} {m g c : Addr} {k : Int} (M : MSt H m g c k) (b : But m g H H') : Lk H H' := fun p o e n1 n2 => by
  obtain ⟨_, cs, gs, h1, h2, h3, _⟩ := M
  refine b _ _ e (fun z => ?_) fun z => ?_
  · rw [z, h1] at e; exact n2 _ (Option.some.inj e).symm
  · rw [z, h3] at e; exact n1 _ (Option.some.inj e).symm
section
variable {K : PySem.W.Frag} {H H' : Hp}
theorem lk_tup {a : Addr} {xs : List V} (s : Lk H H') (h : SqT K H a xs) : SqT K H' a xs := by
  rcases h with (h | ⟨o, h⟩) | h
  · exact .inl (.inl (s _ _ h (fun _ z => nomatch z) (fun _ z => nomatch z)))
  · exact .inl (.inr ⟨o, s _ _ h (fun _ z => nomatch z) (fun _ z => nomatch z)⟩)
  · exact .inr h
theorem lk_stars {xs : List V} {ss : List (List Int)} (s : Lk H H') (h : Stars K H xs ss) : Stars K H' xs ss := ⟨h.1, fun i t e => let ⟨a, h1, h2⟩ := h.2 i t e; ⟨a, h1, lk_tup s h2⟩⟩
theorem lk_web {C x : Addr} {ss : List (List Int)} {k : Nat} (s : Lk H H') (h : WebAt K C H x ss k) : WebAt K C H' x ss k := by
  obtain ⟨dx, p, q, xs, h1, h2, h3, as, z1, z2, z3⟩ := h
  exact ⟨dx, p, q, xs, s _ _ h1 (fun _ z => nomatch z) (fun _ z => nomatch z), lk_tup s h2, lk_stars s h3, as, z1, lk_tup s z2, fun t a e => lk_tup s (z3 t a e)⟩
theorem lk_tups {xs : List V} {ss : List (List Int)} (s : Lk H H') (h : TupsAt H xs ss) : TupsAt H' xs ss := h.tp fun b ys e => s _ _ e (fun _ z => nomatch z) (fun _ z => nomatch z)
theorem codeO_nl {c : Addr} {q : Str} : (∀ xs, LamX.CodeO c q ≠ .lst xs) ∧ ∀ kvs, LamX.CodeO c q ≠ .dK kvs := ⟨fun xs z => (nomatch z), fun kvs z => (nomatch z)⟩
theorem lk_tabs {T : List (Addr × Str)} (s : Lk H H') (t : LamX.Tabs T H) : LamX.Tabs T H' := fun p hp => by
  obtain ⟨ps, h1, h2, h3⟩ := t p hp
  refine ⟨ps, s _ _ h1 (fun _ z => nomatch z) (fun _ z => nomatch z), h2, fun pos cv hc => ?_⟩
  obtain ⟨c, e1, e2⟩ := h3 pos cv hc
  exact ⟨c, e1, s _ _ e2 codeO_nl.1 codeO_nl.2⟩
end
/-! ### len(x), x of an own class -/
section
variable {X : Cx} {CX : CXT} {C f : Addr} {fd : FuncData} {n : Nat} {ps : List Str} {sp : Sp} {E : XK}
def rLenOwn (C : Addr) (sp : Sp) (E : XK) : List V → Hp → VK → Prop := fun xs H Q => ∃ (a dx : Addr) (fs : List (Str × V)), xs = [.ref a] ∧ H a = some (.ins C dx fs) ∧ sp [.ref a] H (fun z H' => ∃ i : Int, z = .int i ∧ 0 ≤ i ∧ i < 2 ^ 63 ∧ Q z H') E
theorem call_lenOwn (F : FnOk X.prog X.w X.K X.mg X.base CX n f fd ps sp) (hs : PySem.W.findIn X.K (.ref C) "__len__" = some (some (.ref f))) (hf : PySem.W.isFn X.K (.ref f) = true) (hb : Binds X.K fd ps []) (hr : Room (n + 1) X.A) (hx : Passes CX X E) : CallR X (.builtin "len") (rLenOwn C sp E) := by
  intro pins s σ H xs us Q I r h
  obtain ⟨a, dx, fs, rfl, ha, q⟩ := h
  obtain ⟨u, rfl, ru⟩ := vals1 r
  obtain rfl : u = Value.ref a := ru
  obtain ⟨mA, J, _⟩ := ins_get I.hok ha
  obtain ⟨od, J, _⟩ := J.look
  refine Calls.call_function_entry kind_len plain_len entry_len (args_len1 _) ?_
  unfold Builtin.«len»
  refine wpAny_bind (m := oneArg "len" _) (wpAny_pure ?_)
  have hl : ([Value.ref a] : List Value).length = ps.length := F.len [.ref a] H _ _ q
  have run : wpAny (model X.prog X.w) X.A.in1 (call (.ref f) [.ref a]) (EP X pins σ fun z H' => ∃ i : Int, z = .int i ∧ 0 ≤ i ∧ i < 2 ^ 63 ∧ Q z H') X.xe s := by
    refine wpAny_call (codeAny_mono (F.run X.A.in1 X.stack s H ⟨[.ref a], []⟩ [.ref a] [.ref a] _ E hr.in1 I.env0.in1 (by have := hb s [.ref a] I.kIn (by rw [List.append_nil]; exact hl); rwa [List.append_nil] at this) (.cons rfl .nil) q) fun r s' hq => ?_)
    cases r with
    | error e => exact hx pins σ H s e s' I hq
    | ok fl =>
      cases fl with
      | ret u => exact I.after hq
      | next => exact False.elim hq
      | brk => exact False.elim hq
      | cont => exact False.elim hq
  refine wpAny_bind (m := callSpecial? (.ref a) (Str.ofString "__len__")) (PySem.W.special_fn I.kIn J hs (beq_iff_eq.mp hf) (wpAny_mono run (fun u s' z => ?_) fun _ _ y => y))
  obtain ⟨z, H', I', rz, i, rfl, h0, h1, q'⟩ := z
  obtain ⟨t, rfl⟩ : ∃ t, u = Value.int i t := rz
  refine wpAny_bind (wpAny_holding (wpAny_pure ?_))
  refine wpAny_bind (wpAny_letGo ?_)
  show wpAny _ _ (if i < 0 then _ else _) _ _ _
  rw [if_neg (by omega)]
  show wpAny _ _ (if i ≥ 2 ^ 63 then _ else _) _ _ _
  rw [if_neg (by omega)]
  exact wpAny_bind (wpAny_mkInt (wpAny_pure ⟨_, rfl, .int i, H', I'.tok _, ⟨_, rfl⟩, q'⟩))
end
abbrev sWLen : Stmt := inClass (topS 15) 1
section
variable {P : Program} {w : World} {K : PySem.W.Frag} {mg : Str → Option Value} {base : Heap}
def spWLen (K : PySem.W.Frag) (C : Addr) : Sp := fun vs H Q _ => ∃ (x : Addr) (ss : List (List Int)) (k : Nat), vs = [.ref x] ∧ WebAt K C H x ss k ∧ k ≤ 1000 ∧ Q (.int k) H
theorem scWLen : FnScope ["self"] ["self"] (defScope sWLen) := ⟨rfl, rfl, rfl, by decide +kernel, rfl, by decide +kernel, by decide +kernel⟩
theorem ok_wlen {f C : Addr} {fd : FuncData} (F : Fun K "__len__" "Web.__len__" sWLen f fd) (T : WebC K mg C) (mle : mg "len" = none) : FnOk P w K mg base CX0 1 f fd ["self"] (spWLen K C) := by
  refine F.ok scWLen (fun vs H Q E h => ?_) (fun cdv A outer s H vs Q E hr h => ?_)
  · obtain ⟨x, ss, k, rfl, _⟩ := h
    rfl
  · obtain ⟨x, ss, k, rfl, ⟨dx, p, q, xs, h1, h2, h3, as, z1, z2, z3⟩, hk, hQ⟩ := h
    refine ⟨_, pss_one (ps_ret (pe_callB call_len_seq (by rfl) mle PySem.boot_len (pa_cons (pe_fld (pv 0) rfl) pa_nil))), ?_⟩
    refine ⟨_, rfl, x, C, dx, _, _, rfl, h1, T.cl, T.nSi, wf_sides _ _, q, _, rfl, .inr z2, ?_⟩
    rw [List.length_map, z1]
    exact hQ
end
end Sg

/-! A lambda without parameters handed to a def that calls it within a try: the slots at the call are known to the except clause. -/
namespace LamY
open PySem PySem.Spec PyProof.Rows L2 LamX
/-- the context of a def that got a lambda -/
abbrev gotCx (X : Cx) (Ng : List Str) (x : Str) (sg : Scope) (g : Addr) (cdg : Value) (s : Shared) (H : Hp) : Cx := cxOf C8.CX0 X.prog X.w X.K X.mg X.base Ng x sg g cdg X.A X.stack s H C8.E0
/-- the reading of a(), a the lambda at f: what an exception of it is wished for is told at these slots -/
def tAct (f c' : Addr) (q : Str) (tl : XK → Hp → VK → Prop) (W : WX) : TE := fun σ H Q => ∃ E : XK, (∀ cls d H', E cls d H' → W cls d σ H') ∧ σ[0]? = some (some (.ref f)) ∧ H c' = some (CodeO c' q) ∧ tl E H Q
/-- the def makes TT of the lambda's reading -/
def Gives (X : Cx) (Ng : List Str) (x : Str) (sg : Scope) (g : Addr) (cdg : Value) (bg : List Stmt) (a : Str) (q : Str) (TT : (XK → Hp → VK → Prop) → Hp → VK → Prop) : Prop :=
  ∀ (f c' : Addr) (s : Shared) (H : Hp) (Q : VK) (tl : XK → Hp → VK → Prop),
    (∀ (W : WX) (pn : List (Addr × Obj)) (xe : Value → Shared → Prop) (p1 p2 : Pos), Takes ((gotCx X Ng x sg g cdg s H).tr pn xe) W → PE ((gotCx X Ng x sg g cdg s H).tr pn xe) (.Call (.Name a p1) [] [] p2) (tAct f c' q tl W)) →
    H c' = some (CodeO c' q) → TT tl H Q → ∃ t, PSs (gotCx X Ng x sg g cdg s H).nox bg t ∧ t { nx := fun _ H' => Q .non H', rt := Q } (L2.start Ng [.ref f]) H
section
variable {X : Cx} {pins : List (Addr × Obj)} {σ : L2.St} {H : Hp} {s : Shared}
theorem act2 {Ng : List Str} {x : Str} {sg : Scope} {g f c' : Addr} {cdg pm ctv : Value} {params : Arguments} {body : Expr} {scope : Scope} {k : Nat} {a : Str} {pn : List (Addr × Obj)} {xe : Value → Shared → Prop} {W : WX} {tb : XK → TE} {p1 p2 : Pos}
    (I : Inv X pins σ H s) (L : LamS X.env.scope scope) (hf : s.heap.get? f = some (PySem.W.kla_obj "<lambda>" (X.env.qual ++ "<lambda>") params body scope (cloFrom X.env.cells scope.names []) pm c' ctv)) (hfn : H f = none) (hfr : f ∉ frs X.stack)
    (hbind : bindArgs (PySem.W.kla_fn "<lambda>" (X.env.qual ++ "<lambda>") params body scope (cloFrom X.env.cells scope.names []) pm (.ref c') ctv) ⟨[], []⟩ = pure [])
    (tk : Takes ((gotCx X Ng x sg g cdg s H).tr pn xe) W) (hr : Room (k + 1) (X.A.deeper (envOfC x sg s.heap.objs.size g cdg)))
    (hbody : ∀ (A : Around) (outer : List Env) (s : Shared) (H : Hp) (E : XK), Room k (A.deeper (lamEnv X scope s.heap.objs.size f c')) → PE (lamCx X A outer s H E scope f c') body (tb E))
    (hN : Ng[0]? = some a) (hv : Vis sg a) (hd : (a == ("__debug__" : Str)) = false := by decide) (hcd : (a == ("__classdict__" : Str)) = false := by decide) :
    PE ((gotCx X Ng x sg g cdg s H).tr pn xe) (.Call (.Name a p1) [] [] p2) (tAct f c' (X.env.qual ++ "<lambda>") (fun E HZ Q => tb E σ HZ Q) W) := by
  refine ⟨fun pZ sZ σZ HZ Q IZ ⟨E, hW, h1, h2, h3⟩ => ?_⟩
  refine wpAny_Call_Name_kw (thn ((pe_var (pos := p1) (i := 0) hN hv hd hcd).run pZ sZ σZ HZ (fun v H1 => v = .ref f ∧ H1 = HZ) IZ ⟨.ref f, h1, rfl, rfl⟩) fun u s1 ⟨v, H1, I1, r1, ev, eH⟩ => ?_)
  subst ev
  subst eH
  obtain rfl : u = Value.ref f := r1
  have un : Un (frs X.stack) [] H H1 s.heap s1.heap := I1.base
  have atf := un.keep f _ hf hfn hfr (fun z => nomatch z)
  obtain ⟨⟨oc, vs, t, hoc, hdc, hvc⟩, _, _⟩ := I1.hok c' _ h2
  refine PySem.W.callWith_F0 ⟨_, _, _, _, atf⟩ (wpAny_call ?_)
  have rc : codeAny (model X.prog X.w) (X.A.deeper (envOfC x sg s.heap.objs.size g cdg)) (.call (.ref f) ⟨[], []⟩) (CR (L2.CX X.prog X.w) (envOfC x sg s.heap.objs.size g cdg :: X.stack) X.prog X.w H1 s1 Q E) s1 := by
    refine PySem.W.kla_callFunE hr.depth atf rfl L.co L.gen rfl ⟨c', oc, vs, t, rfl, hoc, hdc, hvc⟩ ?_
    rw [hbind]
    refine wpAny_pure (wpAny_newFunctionEnv (fun y hy => (L.own y hy).2) (fun y hy => absurd hy (by simp)) (fun h₁ hns hsb => ⟨I1.nolimit.fresh _ hsb, ?_⟩) L.kind)
    have kp : ∀ b o, s1.heap.get? b = some o → h₁.get? b = some o := fun b o e => hsb.extBut b o (Nat.ne_of_lt (Heap.lt_size e)) (Heap.get?_push_of_some _ e)
    have J := lam_start2 (tk := s1.toks + ([] : List (Str × Value)).length) (E := E) (f := f) (c' := c') I L I1.env0 hr.hd un hns kp
    refine PySem.W.kla_codeExpr (wpAny_mono ((hbody _ _ s1 H1 E (hr.deeper _)).run [] _ _ H1 Q J h3) (fun v s' ⟨w', H', J', rv, q⟩ => ?_) fun e s' hq => hq)
    exact ⟨w', H', J'.os, J'.bare, J'.base, J'.hok, rv, q⟩
  refine codeAny_mono rc fun r s' hq => ?_
  cases r with
  | error e => exact tk e s' (XE.of_call I1 hW hq)
  | ok fl =>
    cases fl with
    | ret u => exact I1.after hq
    | next => exact hq.elim
    | brk => exact hq.elim
    | cont => exact hq.elim
end
section
variable {X : Cx}
/-- x(lambda: body) -/
theorem pe_lam2 {T : List (Addr × Str)} {TT : (XK → Hp → VK → Prop) → Hp → VK → Prop} {x a : Str} {g c P : Addr} {k : Nat} {pg : Arguments} {bg : List Stmt} {sg : Scope} {dV kV doc pm cdv ct oc : Value} {an od : Option Addr} {osl : Array (Option Value)} {Ng : List Str}
    {params : Arguments} {body : Expr} {scope : Scope} {t : XK → TE} {p lpos pos : Pos} (hg : Gl X x) (hm : X.mg x = some (.ref g)) (hk : PySem.W.keepIn X.K (.ref g) = true)
    (lk : X.K.lookup g = some ⟨oc, od, .func (PySem.W.fnOf x x pg bg sg dV kV doc pm an cdv ct), osl⟩) (hcg : PySem.W.codeIn X.K cdv x = true) (hb : L2.Binds X.K (PySem.W.fnOf x x pg bg sg dV kV doc pm an cdv ct) [a] []) (Sg : FnScope Ng [a] sg) (hNg : Ng[0]? = some a) (hva : Vis sg a)
    (hG : Gives X Ng x sg g cdv bg a (X.env.qual ++ "<lambda>") TT)
    (TB : TabB X.base X.mg c P) (hcode : X.env.code = .ref c) (hmT : (P, X.env.qual ++ "<lambda>") ∈ T) (hu : ∀ p ∈ T, p.1 = P → p.2 = X.env.qual ++ "<lambda>") (hr : Room (k + 2) X.A) (L : LamS X.env.scope scope) (hdef : defaultsOf params X.env = ([], []))
    (hbind : ∀ (q : Str) (cl : List (Str × Addr)) (pm cv ctv : Value), bindArgs (PySem.W.kla_fn "<lambda>" q params body scope cl pm cv ctv) ⟨[], []⟩ = pure [])
    (hbody : ∀ (A : Around) (outer : List Env) (s : Shared) (H : Hp) (E : XK) (f c' : Addr), Room k (A.deeper (lamEnv X scope s.heap.objs.size f c')) → PE (lamCx X A outer s H E scope f c') body (t E))
    (hdb : (x == ("__debug__" : Str)) = false := by decide) (hd : (a == ("__debug__" : Str)) = false := by decide) (hcd : (a == ("__classdict__" : Str)) = false := by decide) :
    PE X (.Call (.Name x p) [.Lambda params body scope lpos] [] pos) (tLam T TT t) := by
  refine ⟨fun pins s σ H Q I ⟨hT, h⟩ => ?_⟩
  refine wpAny_Call_Name_kw (ld_glob I hg hm ?_ hdb)
  refine PySem.W.callWith_K (h₀ := X.base) I.ok.mod.kin hk ?_ (by rfl) (by rfl)
  refine Calls.spliced_cons (lam_make2 I TB hcode hmT hu hT hdef (L.has I.ok) fun f c' pm' ctv H1 s' I1 eN T1 hf hfn hfr hco => ?_)
  refine Calls.spliced_nil ⟨I1.kIn, wpAny_call (codeAny_mono (R := CR C8.CX0 X.stack X.prog X.w H1 s' Q C8.E0) ?_ fun r s2 hq => ?_)⟩
  · refine run_ofS (N := Ng) (ps := [a]) (us := [.ref f]) (vs := [.ref f]) lk hcg Sg hr I1.env0 (hb s' [.ref f] I1.kIn rfl) (.cons rfl .nil) rfl fun hr' => ?_
    obtain ⟨t', ht', hq'⟩ := hG f c' s' H1 Q (fun E H' Q' => t E σ H' Q') (fun W pn xe p1 p2 tk => act2 I1 L hf hfn hfr (hbind _ _ _ _ _) tk hr' (fun A outer s H E hr2 => hbody A outer s H E f c' hr2) hNg hva hd hcd) hco (h H1 eN T1)
    exact ⟨t', ht'.nox, hq'⟩
  · cases r with
    | error e => exact (show False from hq).elim
    | ok fl =>
      cases fl with
      | ret u => exact I1.after hq
      | next => exact hq.elim
      | brk => exact hq.elim
      | cont => exact hq.elim
end
/-- a reading by a stronger end -/
theorem pe_weak {X : Cx} {e : Expr} {t : TE} (h : PE X e t) : PE X e (fun σ H Q => ∃ Qc : VK, (∀ v H', Qc v H' → Q v H') ∧ t σ H Qc) :=
  ⟨fun pins s σ H Q I ⟨Qc, hq, q⟩ => thn (h.run pins s σ H Qc I q) fun v s1 ⟨x, H1, I1, r, z⟩ => ⟨x, H1, I1, r, hq _ _ z⟩⟩
end LamY

/-! _law_heard(lambda: ..): what a call tells, or which exception it raises. -/
namespace Sg
open PySem PySem.Spec PyProof.Rows L2 Gx Sx LamX LamY
abbrev sHeard : Stmt := topS 30
def hw : Nat → Str
  | 0 => "stars"
  | 1 => "ends"
  | 2 => "set"
  | 3 => "deed"
  | 4 => "number"
  | 5 => "other"
  | 6 => "name"
  | _ => "great"
def hfld (i : Nat) : Str := if i = 7 then "most" else if i = 2 ∨ i = 4 ∨ i = 6 then "value" else "place"
/-- r is what is told of the exception number i, which keeps v -/
def ResH (H : Hp) (r : V) (i : Nat) (v : V) : Prop := if i = 5 then r = .str "other" else ∃ p, r = .ref p ∧ H p = some (.tup [.str (hw i), v])
/-- such an exception is in the air, and what behind it is wanted -/
def EHeard (cs : List Addr) (Q : VK) : XK := fun cls d H => ∃ (i : Nat) (D : Addr) (v : V), i < 8 ∧ cs[i]? = some D ∧ cls = .ref D ∧ (i = 5 → d = none) ∧ (i ≠ 5 → ∃ dd, d = some dd ∧ H dd = some (.xd [(hfld i, v)])) ∧
  ∀ r H', Same H H' → ResH H' r i v → Q r H'
def TTheard (cs : List Addr) : (XK → Hp → VK → Prop) → Hp → VK → Prop := fun tl H Q => ∀ H1, Same H H1 → tl (EHeard cs Q) H1 (fun v H' => ∀ p H'', Same H' H'' → H'' p = some (.lst [v]) → Q (.ref p) H'')
theorem scHeard : FnScope ["call", "told", "error", "e", "kinds_so", "words", "found", "word", "is_so"] ["call"] (defScope sHeard) := ⟨rfl, rfl, rfl, by decide +kernel, rfl, by decide +kernel, by decide +kernel⟩

/-- the order in which kinds are asked -/
def hrho : Nat → Nat
  | 0 => 0
  | 1 => 1
  | 2 => 3
  | 3 => 2
  | j => j
def hacc (i j : Nat) : List V := ((List.range j).filter fun k => decide (i = hrho k)).map fun k => .str (hw (hrho k))
theorem hacc_all {i : Nat} (hi : i < 7) : hacc i 7 = [.str (hw i)] := by
  match i, hi with
  | 0, _ => rfl
  | 1, _ => rfl
  | 2, _ => rfl
  | 3, _ => rfl
  | 4, _ => rfl
  | 5, _ => rfl
  | 6, _ => rfl
theorem hacc_len (i j : Nat) : (hacc i j).length ≤ j := by
  unfold hacc
  rw [List.length_map]
  exact Nat.le_trans (List.length_filter_le _ _) (by rw [List.length_range]; exact Nat.le_refl _)
theorem hacc_tt {i j : Nat} (h : i = hrho j) : hacc i (j + 1) = hacc i j ++ [.str (hw (hrho j))] := by
  unfold hacc
  rw [List.range_succ, List.filter_append, List.map_append]
  simp [h]
theorem hacc_ff {i j : Nat} (h : ¬ i = hrho j) : hacc i (j + 1) = hacc i j := by
  unfold hacc
  rw [List.range_succ, List.filter_append, List.map_append]
  simp [h]
theorem h_other {i : Nat} (hi : i < 7) : decide (V.str (hw i) = V.str "other") = decide (i = 5) := by
  match i, hi with
  | 0, _ => decide +kernel
  | 1, _ => decide +kernel
  | 2, _ => decide +kernel
  | 3, _ => decide +kernel
  | 4, _ => decide +kernel
  | 5, _ => decide +kernel
  | 6, _ => decide +kernel
theorem h_val {i : Nat} (hi : i < 7) : inV (.str (hw i)) [.str "set", .str "number", .str "name"] = decide (i = 2 ∨ i = 4 ∨ i = 6) := by
  match i, hi with
  | 0, _ => decide +kernel
  | 1, _ => decide +kernel
  | 2, _ => decide +kernel
  | 3, _ => decide +kernel
  | 4, _ => decide +kernel
  | 5, _ => decide +kernel
  | 6, _ => decide +kernel
theorem Errs.rdh {P : Program} {K : PySem.W.Frag} {mg : Str → Option Value} {c0 c1 c2 c3 c4 c5 c6 c7 cR : Addr} (T : Errs P K mg c0 c1 c2 c3 c4 c5 c6 c7 cR) {i : Nat} {a : Addr} (h : [c0, c1, c2, c3, c4, c5, c6, c7][i]? = some a) (hi : i < 8) (h5 : i ≠ 5) : RdC K a (hfld i) := by
  match i, hi, h with
  | 0, _, h => cases h; exact T.r0.rd
  | 1, _, h => cases h; exact T.r1.rd
  | 2, _, h => cases h; exact T.r2.rd
  | 3, _, h => cases h; exact T.r3.rd
  | 4, _, h => cases h; exact T.r4.rd
  | 5, _, _ => exact absurd rfl h5
  | 6, _, h => cases h; exact T.r6.rd
  | 7, _, h => cases h; exact T.r7.rd
theorem ite_mono {c : Prop} [Decidable c] {A B : VK → Prop} {Q : VK} (S : V → Hp → Prop) (hA : c → ∀ Q : VK, (∀ v H, S v H → Q v H) → A Q) (hB : ¬ c → ∀ Q : VK, (∀ v H, S v H → Q v H) → B Q) (k : ∀ v H, S v H → Q v H) : if c then A Q else B Q := by
  by_cases z : c
  · rw [if_pos z]; exact hA z Q k
  · rw [if_neg z]; exact hB z Q k
section
theorem heard_gives {X : Cx} {c0 c1 c2 c3 c4 c5 c6 c7 cR g : Addr} {cdg : Value} {q : Str} (T : Errs X.prog X.K X.mg c0 c1 c2 c3 c4 c5 c6 c7 cR) (tX : ∀ (i : Nat) (D : Addr), [c0, c1, c2, c3, c4, c5, c6, c7][i]? = some D → PySem.W.exmAny X.K (.ref D) [.ref cR, .ref c7] = some true)
    (mis : X.mg "isinstance" = none) (mle : X.mg "len" = none) (mz : X.mg "zip" = none) (mve : X.mg "ValueError" = none) :
    Gives X ["call", "told", "error", "e", "kinds_so", "words", "found", "word", "is_so"] "_law_heard" (defScope sHeard) g cdg (defBody sHeard) "call" q (TTheard [c0, c1, c2, c3, c4, c5, c6, c7]) := by
  intro f c' s H Q tl act hc h
  refine ⟨_, pss_cons (ps_par (i := 1) (j := 2) (by rfl) scHeard.nd rfl rfl (by decide) rfl rfl (pa_cons (pe_lst pa_nil) (pa_cons pe_non pa_nil)) (by rfl))
    (pss_cons (ps_try_two (i := 3) (c1 := .ref cR) (c2 := .ref c7) (tb := fun W => tAsg (tLst (tCons (fun σ H Q => ∃ Qc : VK, (∀ v H', Qc v H' → Q v H') ∧ tAct f c' q tl W σ H Qc) tNil)) (gName 1)) (ts := fun _ => tAsg (tVar 3) (gName 2)) rfl rfl rfl scHeard.nd rfl rfl ⟨rfl, by decide, .inl T.gR⟩ ⟨rfl, by decide, .inl T.r7.g⟩
      (fun W pn xe tk _ => pss_one (ps_asg (pe_lst (pa_cons (pe_weak (act W pn xe _ _ tk)) pa_nil)) (pg_name (i := 1) scHeard.nd rfl (.inl rfl)))) (fun a oe cls d pn _ _ => pss_one (ps_asg (pv 3) (pg_name (i := 2) scHeard.nd rfl (.inl rfl)))))
    (pss_cons (ps_if (pt_cmpR op_isN (pv 2) pe_non (nomark _)) (pss_one (ps_ret (pv 1))) pss_nil)
      (pss_cons (ps_if (pt_val (pe_callB call_isX (by rfl) mis (by decide +kernel) (pa_cons (pv 2) (pa_cons (pe_glob (v := .ref c7) (by rfl) T.r7.g rfl) pa_nil)))) (pss_one (ps_ret (pe_ifExp (pt_not (pt_val (pe_callB call_isX (by rfl) mis (by decide +kernel) (pa_cons (pv 2) (pa_cons (pe_bltn (v := .ty "ValueError") (u := .type "ValueError") (by rfl) mve (by decide +kernel) rfl) pa_nil))))) (pe_tup (pa_cons pe_str (pa_cons (pe_exF (pv 2)) pa_nil))) pe_str))) pss_nil)
      (pss_cons (ps_set (i := 4) scHeard.nd rfl (.inl rfl) (pe_lst (pa_cons (pe_callB call_isX (by rfl) mis (by decide +kernel) (pa_cons (pv 2) (pa_cons (pe_glob (v := .ref c0) (by rfl) T.r0.g rfl) pa_nil))) (pa_cons (pe_callB call_isX (by rfl) mis (by decide +kernel) (pa_cons (pv 2) (pa_cons (pe_glob (v := .ref c1) (by rfl) T.r1.g rfl) pa_nil))) (pa_cons (pe_callB call_isX (by rfl) mis (by decide +kernel) (pa_cons (pv 2) (pa_cons (pe_glob (v := .ref c3) (by rfl) T.r3.g rfl) pa_nil))) pa_nil)))))
      (pss_cons (ps_set (i := 4) scHeard.nd rfl (.inl rfl) (pe_op op_cat (pv 4) (pe_lst (pa_cons (pe_callB call_isX (by rfl) mis (by decide +kernel) (pa_cons (pv 2) (pa_cons (pe_glob (v := .ref c2) (by rfl) T.r2.g rfl) pa_nil))) (pa_cons (pe_callB call_isX (by rfl) mis (by decide +kernel) (pa_cons (pv 2) (pa_cons (pe_glob (v := .ref c4) (by rfl) T.r4.g rfl) pa_nil))) (pa_cons (pe_callB call_isX (by rfl) mis (by decide +kernel) (pa_cons (pv 2) (pa_cons (pe_glob (v := .ref c5) (by rfl) T.r5.g rfl) pa_nil))) pa_nil))))))
      (pss_cons (ps_expr (pe_bm PySem.F.plainAttrs_list PySem.F.slot_list_append PySem.F.type_list_append mt_append (pv 4) (pa_cons (pe_callB call_isX (by rfl) mis (by decide +kernel) (pa_cons (pv 2) (pa_cons (pe_glob (v := .ref c6) (by rfl) T.r6.g rfl) pa_nil))) pa_nil)))
      (pss_cons (ps_set (i := 5) scHeard.nd rfl (.inl rfl) (pe_lst (pa_cons pe_str (pa_cons pe_str (pa_cons pe_str (pa_cons pe_str (pa_cons pe_str (pa_cons pe_str (pa_cons pe_str pa_nil)))))))))
      (pss_cons (ps_setLc (i := 6) (own := [("word", 7), ("is_so", 8)]) (g := gTup X.K 2 (gCons (gName 7) (gCons (gName 8) gNil))) rfl scHeard.nd rfl rfl (sw_true rfl rfl rfl (by decide +kernel)) (pi_zip (by rfl) mz (pa_cons (pv 5) (pa_cons (pv 4) pa_nil))) (blkOk_by (own := [("word", 7), ("is_so", 8)]) (N := ["call", "told", "error", "e", "kinds_so", "words", "found", "word", "is_so"]) (sc := defScope sHeard) (by decide +kernel))
          (fun _ _ _ _ _ => pg_tup rfl (pgs_cons (pg_name (i := 7) scHeard.nd rfl (Or.inl rfl)) (pgs_cons (pg_name (i := 8) scHeard.nd rfl (Or.inl rfl)) pgs_nil))) (fun _ _ _ _ _ => pts_one (pt_val (pv 8))) (fun _ _ _ _ _ => pv 7))
      (pss_cons (ps_if (PW.pt (pw_or (pt_cmpR op_ne (pe_callB call_len_seq (by rfl) mle PySem.boot_len (pa_cons (pv 6) pa_nil)) pe_int (nomark _)) (pw_or1 (pt_not (pt_val (pe_callB call_isX (by rfl) mis (by decide +kernel) (pa_cons (pv 2) (pa_cons (pe_bltn (v := .ty "ValueError") (u := .type "ValueError") (by rfl) mve (by decide +kernel) rfl) pa_nil)))))))) (pss_one (ps_ret pe_str)) pss_nil)
      (pss_cons (ps_if (pt_cmpR op_eq (pe_ix ix_list (pv 6) pe_int (fun _ _ => rfl)) pe_str (nomark _)) (pss_one (ps_ret (pe_ix ix_list (pv 6) pe_int (fun _ _ => rfl)))) pss_nil)
      (pss_one (ps_ret (pe_tup (pa_cons (pe_ix ix_list (pv 6) pe_int (fun _ _ => rfl)) (pa_cons (pe_ifExp (pt_cmpR op_in_seq (pe_ix ix_list (pv 6) pe_int (fun _ _ => rfl)) (pe_tup (pa_cons pe_str (pa_cons pe_str (pa_cons pe_str pa_nil)))) (by with_unfolding_all rfl)) (pe_exF (pv 2)) (pe_exF (pv 2))) pa_nil))))))))))))))), ?_⟩
  refine ⟨by show 0 ≤ sizeLine; decide, fun t0 nt0 => ?_⟩
  refine ⟨_, _, rfl, ?_⟩
  have s0 := sameN (o := .lst []) nt0
  replace h := h _ s0
  replace hc := s0 _ _ hc
  generalize upd H t0 (.lst []) = H1 at s0 h hc ⊢
  refine ⟨_, ?_, EHeard [c0, c1, c2, c3, c4, c5, c6, c7] Q, ?_, rfl, hc, h⟩
  · -- it tells something
    intro v H' k
    refine ⟨by show 1 ≤ sizeLine; decide, fun p np => ?_⟩
    exact ⟨_, rfl, rfl, true, rfl, ite_tt ⟨_, rfl, k _ _ (sameN np) upd_same⟩⟩
  · rintro cls d H' ⟨i, D, v, hi, hD, rfl, h5, hf, k⟩
    refine ⟨D, rfl, tX i D hD, fun a na => ?_⟩
    refine ⟨_, rfl, ?_⟩
    have sA := sameN (o := exV a D d) na
    have te := T.ex hD
    have xo : ExOf (upd H' a (exV a D d)) a D := ⟨d, upd_same, fun dd z => by
      by_cases e5 : i = 5
      · rw [h5 e5] at z
        cases z
      · obtain ⟨d2, y1, y2⟩ := hf e5
        rw [y1] at z
        cases z
        exact ⟨_, sA _ _ y2⟩⟩
    have xf : i ≠ 5 → ∃ dd, (upd H' a (exV a D d)) a = some (exV a D (some dd)) ∧ (upd H' a (exV a D d)) dd = some (.xd [(hfld i, v)]) := fun e5 => by
      obtain ⟨d2, y1, y2⟩ := hf e5
      exact ⟨d2, by rw [upd_same, y1], sA _ _ y2⟩
    have rd := fun e5 : i ≠ 5 => T.rdh hD hi e5
    refine ⟨_, rfl, rfl, false, rfl, ite_ff ?_⟩
    generalize upd H' a (exV a D d) = H2 at sA xo xf ⊢
    clear h5 hf na
    -- isinstance(error, TooGreat)
    obtain ⟨dd0, h1, h2⟩ := xo
    refine ⟨_, rfl, a, D, dd0, _, _, _, rfl, te, h1, h2, .own c7, T.kk i 7 D c7 hD rfl, ?_⟩
    replace xo : ExOf _ a D := ⟨dd0, h1, h2⟩
    clear h1 h2
    refine ⟨decide (i = 7), rfl, ?_⟩
    by_cases e7 : i = 7
    · rw [decide_eq_true e7]
      refine ite_tt ?_
      obtain ⟨dd0, h1, h2⟩ := xo
      refine ⟨_, rfl, a, D, dd0, _, _, _, rfl, te, h1, h2, .ty "ValueError", T.kV i D hD, ?_⟩
      replace xo : ExOf _ a D := ⟨dd0, h1, h2⟩
      clear h1 h2
      refine ⟨decide (i < 7), rfl, ?_⟩
      have l7 : ¬ i < 7 := by omega
      rw [decide_eq_false l7]
      refine ite_tt ?_
      obtain ⟨d2, y1, y2⟩ := xf (by omega)
      have hF : hfld i = "most" := by unfold hfld; rw [if_pos e7]
      have rd := rd (by omega)
      rw [hF] at rd y2
      refine ⟨_, rfl, a, D, d2, _, v, rfl, rd.x, rd.n, y1, y2, lookE, ?_⟩
      refine ⟨by show 2 ≤ sizeLine; decide, fun p np => ?_⟩
      refine k _ _ (sA.trans (sameN np)) ?_
      unfold ResH
      rw [if_neg (by omega)]
      exact ⟨p, rfl, by rw [upd_same, e7]; rfl⟩
    rw [decide_eq_false e7]
    refine ite_ff ?_
    have hi : i < 7 := by omega
    have sB := Same.refl H2
    have newer : ∀ {H3 : Hp} {p : Addr} {o : HO}, Same H2 H3 → H2 p = none → Same H2 (upd H3 p o) := fun s n b o e => by
      rw [upd_ne (ne_of_none e n)]
      exact s b o e
    have none_of : ∀ {H3 : Hp} {p : Addr}, Same H2 H3 → H3 p = none → H2 p = none := fun {H3 p} s n => by
      cases e : H2 p with
      | none => rfl
      | some o => rw [s _ _ e] at n; cases n
    -- kinds_so
    obtain ⟨dd0, h1, h2⟩ := xo.same sB
    refine ⟨_, rfl, a, D, dd0, _, _, _, rfl, te, h1, h2, .own c0, T.kk i 0 D c0 hD rfl, ?_⟩
    clear h1 h2
    obtain ⟨dd0, h1, h2⟩ := xo.same sB
    refine ⟨_, rfl, a, D, dd0, _, _, _, rfl, te, h1, h2, .own c1, T.kk i 1 D c1 hD rfl, ?_⟩
    clear h1 h2
    obtain ⟨dd0, h1, h2⟩ := xo.same sB
    refine ⟨_, rfl, a, D, dd0, _, _, _, rfl, te, h1, h2, .own c3, T.kk i 3 D c3 hD rfl, ?_⟩
    clear h1 h2
    refine ⟨by show 3 ≤ sizeLine; decide, fun p1 np1 => ?_⟩
    have sC := sameN (o := .lst [.bl (decide (i = 0)), .bl (decide (i = 1)), .bl (decide (i = 3))]) np1
    have e_p1 : (upd H2 p1 (.lst [.bl (decide (i = 0)), .bl (decide (i = 1)), .bl (decide (i = 3))])) p1 = some (.lst [.bl (decide (i = 0)), .bl (decide (i = 1)), .bl (decide (i = 3))]) := upd_same
    replace sB := sB.trans sC
    generalize upd H2 p1 (.lst [.bl (decide (i = 0)), .bl (decide (i = 1)), .bl (decide (i = 3))]) = H3 at sB e_p1  ⊢
    clear sC np1
    refine ⟨_, rfl, ?_⟩
    obtain ⟨dd0, h1, h2⟩ := xo.same sB
    refine ⟨_, rfl, a, D, dd0, _, _, _, rfl, te, h1, h2, .own c2, T.kk i 2 D c2 hD rfl, ?_⟩
    clear h1 h2
    obtain ⟨dd0, h1, h2⟩ := xo.same sB
    refine ⟨_, rfl, a, D, dd0, _, _, _, rfl, te, h1, h2, .own c4, T.kk i 4 D c4 hD rfl, ?_⟩
    clear h1 h2
    obtain ⟨dd0, h1, h2⟩ := xo.same sB
    refine ⟨_, rfl, a, D, dd0, _, _, _, rfl, te, h1, h2, .own c5, T.kk i 5 D c5 hD rfl, ?_⟩
    clear h1 h2
    refine ⟨by show 3 ≤ sizeLine; decide, fun p2 np2 => ?_⟩
    have sC := sameN (o := .lst [.bl (decide (i = 2)), .bl (decide (i = 4)), .bl (decide (i = 5))]) np2
    have e_p2 : (upd H3 p2 (.lst [.bl (decide (i = 2)), .bl (decide (i = 4)), .bl (decide (i = 5))])) p2 = some (.lst [.bl (decide (i = 2)), .bl (decide (i = 4)), .bl (decide (i = 5))]) := upd_same
    replace sB := sB.trans sC
    replace e_p1 := sC _ _ e_p1
    generalize upd H3 p2 (.lst [.bl (decide (i = 2)), .bl (decide (i = 4)), .bl (decide (i = 5))]) = H4 at sB e_p2 e_p1 ⊢
    clear sC np2
    refine ⟨p1, p2, _, _, rfl, rfl, e_p1, e_p2, by show 6 ≤ sizeLine; decide, fun p3 np3 => ?_⟩
    simp only [List.cons_append, List.nil_append]
    have n3 := none_of sB np3
    have sC := sameN (o := .lst [.bl (decide (i = 0)), .bl (decide (i = 1)), .bl (decide (i = 3)), .bl (decide (i = 2)), .bl (decide (i = 4)), .bl (decide (i = 5))]) np3
    have e_p3 : (upd H4 p3 (.lst [.bl (decide (i = 0)), .bl (decide (i = 1)), .bl (decide (i = 3)), .bl (decide (i = 2)), .bl (decide (i = 4)), .bl (decide (i = 5))])) p3 = some (.lst [.bl (decide (i = 0)), .bl (decide (i = 1)), .bl (decide (i = 3)), .bl (decide (i = 2)), .bl (decide (i = 4)), .bl (decide (i = 5))]) := upd_same
    replace sB := sB.trans sC
    generalize upd H4 p3 (.lst [.bl (decide (i = 0)), .bl (decide (i = 1)), .bl (decide (i = 3)), .bl (decide (i = 2)), .bl (decide (i = 4)), .bl (decide (i = 5))]) = H5 at sB e_p3  ⊢
    clear sC np3
    clear e_p1 e_p2
    refine ⟨_, rfl, .inl ⟨rfl, _, SqL.of e_p3⟩, ?_⟩
    obtain ⟨dd0, h1, h2⟩ := xo.same sB
    refine ⟨_, rfl, a, D, dd0, _, _, _, rfl, te, h1, h2, .own c6, T.kk i 6 D c6 hD rfl, ?_⟩
    clear h1 h2
    refine ⟨p3, _, _, rfl, rfl, e_p3, by show 6 < sizeLine; decide, ?_⟩
    simp only [List.cons_append, List.nil_append]
    replace sB := newer (o := .lst [.bl (decide (i = 0)), .bl (decide (i = 1)), .bl (decide (i = 3)), .bl (decide (i = 2)), .bl (decide (i = 4)), .bl (decide (i = 5)), .bl (decide (i = 6))]) sB n3
    replace e_p3 : (upd H5 p3 (.lst [.bl (decide (i = 0)), .bl (decide (i = 1)), .bl (decide (i = 3)), .bl (decide (i = 2)), .bl (decide (i = 4)), .bl (decide (i = 5)), .bl (decide (i = 6))])) p3 = some (.lst [.bl (decide (i = 0)), .bl (decide (i = 1)), .bl (decide (i = 3)), .bl (decide (i = 2)), .bl (decide (i = 4)), .bl (decide (i = 5)), .bl (decide (i = 6))]) := upd_same
    generalize upd H5 p3 (.lst [.bl (decide (i = 0)), .bl (decide (i = 1)), .bl (decide (i = 3)), .bl (decide (i = 2)), .bl (decide (i = 4)), .bl (decide (i = 5)), .bl (decide (i = 6))]) = H6 at sB e_p3 ⊢
    -- words
    refine ⟨by show 7 ≤ sizeLine; decide, fun y ny => ?_⟩
    have sC := sameN (o := .lst [.str "stars", .str "ends", .str "deed", .str "set", .str "number", .str "other", .str "name"]) ny
    have e_y : (upd H6 y (.lst [.str "stars", .str "ends", .str "deed", .str "set", .str "number", .str "other", .str "name"])) y = some (.lst [.str "stars", .str "ends", .str "deed", .str "set", .str "number", .str "other", .str "name"]) := upd_same
    replace sB := sB.trans sC
    replace e_p3 := sC _ _ e_p3
    generalize upd H6 y (.lst [.str "stars", .str "ends", .str "deed", .str "set", .str "number", .str "other", .str "name"]) = H7 at sB e_y e_p3 ⊢
    clear sC ny
    -- found
    refine ⟨_, rfl, _, rfl, y, p3, _, _, rfl, SqL.of e_y, SqL.of e_p3, fun B nB => ?_⟩
    refine lc_it (walk_zip (n := 7) (xs := [.str "stars", .str "ends", .str "deed", .str "set", .str "number", .str "other", .str "name"]) (ys := [.bl (decide (i = 0)), .bl (decide (i = 1)), .bl (decide (i = 3)), .bl (decide (i = 2)), .bl (decide (i = 4)), .bl (decide (i = 5)), .bl (decide (i = 6))]) (by rfl)) (fun j H' => Same H7 H' ∧ H' B = some (.lst (hacc i j))) ⟨sameN nB, upd_same⟩ (fun j H' _ hp => ⟨SqL.of (hp.1 _ _ e_y), SqL.of (hp.1 _ _ e_p3)⟩) (fun j x H8 H9 hj hp hy => ?_) (fun H8 hp => ?_)
    · obtain ⟨T9, x1, x2, rfl, nT, rfl, f1, f2⟩ := hy
      have hj : j < 7 := hj
      have w1 : x1 = .str (hw (hrho j)) ∧ x2 = .bl (decide (i = hrho j)) := by
        match j, hj, f1, f2 with
        | 0, _, f1, f2 => cases f1; cases f2; exact ⟨rfl, rfl⟩
        | 1, _, f1, f2 => cases f1; cases f2; exact ⟨rfl, rfl⟩
        | 2, _, f1, f2 => cases f1; cases f2; exact ⟨rfl, rfl⟩
        | 3, _, f1, f2 => cases f1; cases f2; exact ⟨rfl, rfl⟩
        | 4, _, f1, f2 => cases f1; cases f2; exact ⟨rfl, rfl⟩
        | 5, _, f1, f2 => cases f1; cases f2; exact ⟨rfl, rfl⟩
        | 6, _, f1, f2 => cases f1; cases f2; exact ⟨rfl, rfl⟩
      obtain ⟨rfl, rfl⟩ := w1
      have nBT : B ≠ T9 := ne_of_none hp.2 nT
      refine ⟨T9, _, rfl, .inl (.inl upd_same), rfl, _, _, rfl, _, _, rfl, rfl, rfl, ?_⟩
      refine ⟨_, rfl, decide (i = hrho j), rfl, ?_⟩
      have sT := hp.1.trans (sameN (o := .tup [.str (hw (hrho j)), .bl (decide (i = hrho j))]) nT)
      by_cases z : i = hrho j
      · rw [decide_eq_true z] at sT ⊢
        refine ite_tt ⟨_, rfl, _, by rw [upd_ne nBT]; exact hp.2, Nat.lt_of_le_of_lt (hacc_len i j) (small1000 (by omega)), fun b o q => ?_, ?_⟩
        · rw [upd_ne (ne_of_none q nB)]
          exact sT b o q
        · rw [upd_same, hacc_tt z]
      · rw [decide_eq_false z] at sT ⊢
        exact ite_ff ⟨sT, by rw [upd_ne nBT, hacc_ff z]; exact hp.2⟩
    obtain ⟨s8, e_B⟩ := hp
    replace e_B : H8 B = some (.lst (hacc i 7)) := e_B
    rw [hacc_all hi] at e_B
    replace sB := sB.trans s8
    clear s8 e_y e_p3 nB
    -- len(found) != 1 or not isinstance(error, ValueError)
    refine ⟨_, rfl, B, _, rfl, .inl (SqL.of e_B), ?_⟩
    refine ⟨rfl, false, rfl, ite_ff ?_⟩
    obtain ⟨dd0, h1, h2⟩ := xo.same sB
    refine ⟨_, rfl, a, D, dd0, _, _, _, rfl, te, h1, h2, .ty "ValueError", T.kV i D hD, ?_⟩
    clear h1 h2
    refine ⟨decide (i < 7), rfl, ?_⟩
    rw [decide_eq_true hi]
    refine ite_ff ?_
    -- found[0] == "other"
    refine ⟨_, rfl, B, _, 0, _, rfl, rfl, SqL.of e_B, atI_nat (j := 0) rfl, ?_⟩
    refine ⟨rfl, decide (i = 5), congrArg V.bl (h_other hi), ?_⟩
    by_cases e5 : i = 5
    · rw [decide_eq_true e5]
      refine ite_tt ?_
      refine ⟨_, rfl, B, _, 0, _, rfl, rfl, SqL.of e_B, atI_nat (j := 0) rfl, ?_⟩
      refine k _ _ (sA.trans sB) ?_
      unfold ResH
      rw [if_pos e5, e5]
      rfl
    rw [decide_eq_false e5]
    refine ite_ff ?_
    refine ⟨_, rfl, B, _, 0, _, rfl, rfl, SqL.of e_B, atI_nat (j := 0) rfl, ?_⟩
    have rd := rd e5
    obtain ⟨d2, y1, y2⟩ := xf e5
    replace y1 := sB _ _ y1
    replace y2 := sB _ _ y2
    refine ⟨_, rfl, B, _, 0, _, rfl, rfl, SqL.of e_B, atI_nat (j := 0) rfl, ?_⟩
    refine ⟨by show 3 ≤ sizeLine; decide, fun p5 np5 => ?_⟩
    refine ⟨p5, _, rfl, .inr (SqT.of upd_same), rfl, rfl, ?_⟩
    refine ⟨decide (i = 2 ∨ i = 4 ∨ i = 6), congrArg V.bl (h_val hi), ?_⟩
    have sD := sameN (o := .tup [.str "set", .str "number", .str "name"]) np5
    replace sB := sB.trans sD
    replace y1 := sD _ _ y1
    replace y2 := sD _ _ y2
    refine ite_mono (fun x H9 => x = v ∧ H9 = upd H8 p5 (.tup [.str "set", .str "number", .str "name"])) (fun z Q' k' => ?_) (fun z Q' k' => ?_) (fun x H9 h9 => ?_)
    · have z : i = 2 ∨ i = 4 ∨ i = 6 := of_decide_eq_true z
      have hF : hfld i = "value" := by unfold hfld; rw [if_neg (by omega), if_pos z]
      rw [hF] at rd y2
      exact ⟨_, rfl, a, D, d2, _, v, rfl, rd.x, rd.n, y1, y2, lookE, k' _ _ ⟨rfl, rfl⟩⟩
    · have z : ¬ (i = 2 ∨ i = 4 ∨ i = 6) := fun y => z (decide_eq_true y)
      have hF : hfld i = "place" := by unfold hfld; rw [if_neg (by omega), if_neg z]
      rw [hF] at rd y2
      exact ⟨_, rfl, a, D, d2, _, v, rfl, rd.x, rd.n, y1, y2, lookE, k' _ _ ⟨rfl, rfl⟩⟩
    obtain ⟨rfl, rfl⟩ := h9
    refine ⟨by show 2 ≤ sizeLine; decide, fun p np => ?_⟩
    refine k _ _ (sA.trans (sB.trans (sameN np))) ?_
    unfold ResH
    rw [if_neg e5]
    exact ⟨p, rfl, upd_same⟩
end
end Sg

namespace Sg
open PySem PySem.Spec PyProof.Rows L2 RZ StX Gx Sx LamX LamY
abbrev sLaw : Stmt := topS 33
/-- the name that the law's lambdas bear -/
def lamQ : Str := (envOfC "law" (defScope sLaw) 0 0 .none).qual ++ "<lambda>"
theorem MSt.extN {H H' : Hp} {m g c : Addr} {k : Int} (M : MSt H m g c k) (s : ExtN H H') : MSt H' m g c k := M.keep fun b o e h => s b o e fun ps z => by
  rcases h with ⟨kvs, h⟩ | ⟨xs, h⟩
  · rw [h] at z; cases z
  · rw [h] at z; cases z
theorem Fixes.extN {m g c : Addr} {H H' : Hp} {xs : List V} (h : Fixes m g c H xs) (s : ExtN H H') : Fixes m g c H' xs := fun v hv => by
  obtain ⟨o, f⟩ := h v hv
  refine ⟨o, ?_⟩
  cases f with
  | non => exact .non
  | int i => exact .int i
  | lst e o => exact .lst (s _ _ e (fun _ z => nomatch z)) o
  | odd h e => exact .odd h (s _ _ e (fun _ z => nomatch z))
  | tup e hl => exact .tup (s _ _ e (fun _ z => nomatch z)) hl
theorem xtup {K : PySem.W.Frag} {H H1 H2 : Hp} {a : Addr} {xs : List V} (h : SqT K H a xs) (s : Same H H1) (x : ExtN H1 H2) : SqT K H2 a xs := by
  rcases h with (h | ⟨o, h⟩) | h
  · exact .inl (.inl (x _ _ (s _ _ h) (fun _ z => nomatch z)))
  · exact .inl (.inr ⟨o, x _ _ (s _ _ h) (fun _ z => nomatch z)⟩)
  · exact .inr h
theorem xsq {K : PySem.W.Frag} {H H1 H2 : Hp} {a : Addr} {xs : List V} (h : SqL K H a xs) (s : Same H H1) (x : ExtN H1 H2) : SqL K H2 a xs := by
  rcases h with (h | ⟨o, h⟩) | h
  · exact .inl (.inl (x _ _ (s _ _ h) (fun _ z => nomatch z)))
  · exact .inl (.inr ⟨o, x _ _ (s _ _ h) (fun _ z => nomatch z)⟩)
  · exact .inr h
theorem good_nil : Good [] 0 := ⟨by decide, fun s h => by simp at h, fun s h => by simp at h, fun i x y e => by simp at e, fun t => by simp, by decide, fun t ht => by simp⟩
theorem good_own : Good [[0], [0, 1], [1]] 2 := by
  refine ⟨by decide, fun s h => ?_, fun s h => ?_, fun i x y ex ey => ?_, fun t => ?_, by decide, fun t ht => ?_⟩
  · simp at h
    rcases h with rfl | rfl | rfl <;> simp
  · simp at h
    rcases h with rfl | rfl | rfl <;> decide
  · match i with
    | 0 => cases ex; cases ey; decide
    | 1 => cases ex; cases ey; decide
    | i + 2 => simp at ey
  · show List.count t [0, 0, 1, 1] ≤ 2
    simp only [List.count_cons, List.count_nil]
    by_cases h0 : t = 0
    · subst h0; decide
    · by_cases h1 : t = 1
      · subst h1; decide
      · simp [Ne.symm h0, Ne.symm h1]
  · have all : ∀ t : Fin 12, (0 < List.count ((t.val : Nat) : Int) [0, 0, 1, 1] ↔ t.val < 2) := by decide
    exact all ⟨t, ht⟩
theorem stars_nil {K : PySem.W.Frag} {H : Hp} : Stars K H [] [] := ⟨rfl, fun i s e => by simp at e⟩
theorem Stars.cons {K : PySem.W.Frag} {H : Hp} {a : Addr} {s : List Int} {xs : List V} {ss : List (List Int)} (h : SqT K H a (s.map V.int)) (t : Stars K H xs ss) : Stars K H (.ref a :: xs) (s :: ss) :=
  ⟨by rw [List.length_cons, List.length_cons, t.1], fun i u e => by
    cases i with
    | zero => cases e; exact ⟨a, rfl, h⟩
    | succ j => exact t.2 j u e⟩
theorem judge_le : ∀ (its : List (Option (List Int))) (n : Nat) (flat pv : List Int) (m : Nat), judgeFrom n flat pv its = some m → m ≤ n + its.length
  | [], n, flat, pv, m, h => by
    have h : (if lackB flat = true then some n else none) = some m := h
    by_cases z : lackB flat = true
    · rw [if_pos z] at h; cases h; exact Nat.le_refl _
    · rw [if_neg z] at h; cases h
  | it :: r, n, flat, pv, m, h => by
    have h : (if badAt flat pv it = true then some n else judgeFrom (n + 1) (flat ++ it.getD []) (it.getD []) r) = some m := h
    rw [List.length_cons]
    by_cases z : badAt flat pv it = true
    · rw [if_pos z] at h; cases h; omega
    · rw [if_neg z] at h
      have := judge_le r _ _ _ _ h
      omega
theorem de_ints {K : PySem.W.Frag} {H : Hp} : ∀ gs : List Int, DeAll K H (gs.map V.int) (gs.map PyData.int)
  | [] => .nil
  | i :: r => .cons (.int i) (de_ints r)
theorem deAll_stars {K : PySem.W.Frag} {H : Hp} : ∀ {xs : List V} {ss : List (List Int)}, Stars K H xs ss → DeAll K H xs (ss.map datS)
  | [], [], _ => .nil
  | [], _ :: _, h => by cases h.1
  | _ :: _, [], h => by cases h.1
  | x :: xs, s :: ss, h => by
    obtain ⟨a, h1, h2⟩ := h.2 0 s rfl
    cases h1
    exact .cons (.tup h2 (de_ints s)) (deAll_stars ⟨Nat.succ.inj h.1, fun i t e => h.2 (i + 1) t e⟩)
theorem de_stars {K : PySem.W.Frag} {H : Hp} {p : Addr} {xs : List V} {ss : List (List Int)} (h : SqT K H p xs) (hs : Stars K H xs ss) : De K H (.ref p) (dat ss) := .tup h (deAll_stars hs)
section
variable {P : Program} {w : World} {K : PySem.W.Frag} {mg : Str → Option Value} {base : Heap}
/-- what _law_due answers, told of one value -/
def spDueV (K : PySem.W.Frag) : Sp := fun vs H Q _ => ∃ (p : Addr) (xs : List V) (its : List (Option (List Int))), vs = [.ref p] ∧ SqL K H p xs ∧ Items K H xs its ∧ its.length ≤ 100 ∧
  ∀ v H', Same H H' → (judge its = none ∧ v = .non ∨ ∃ (n : Nat) (q : Addr), judge its = some n ∧ v = .ref q ∧ H' q = some (.tup [.str "stars", .int (n : Nat)])) → Q v H'
theorem due_v {f : Addr} {fd : FuncData} (F : FnOk P w K mg base CX0 2 f fd ["stars"] (spDue K)) : FnOk P w K mg base CX0 2 f fd ["stars"] (spDueV K) := F.imp fun vs H Q E h => by
  obtain ⟨p, xs, its, e, h1, h2, h3, h4⟩ := h
  exact ⟨p, xs, its, e, h1, h2, h3, fun H' s => ⟨fun z => h4 _ _ s (.inl ⟨z, rfl⟩), fun n q z eq => h4 _ _ s (.inr ⟨n, q, z, rfl, eq⟩)⟩⟩
theorem heard_go {cs : List Addr} {tl : (XK → Hp → VK → Prop)} {H : Hp} {Q : VK} (S : V → Hp → Prop) (h1 : ∀ (Q' : VK), (∀ v H', S v H' → Q' v H') → TTheard cs tl H Q') (h2 : ∀ v H', S v H' → Q v H') : TTheard cs tl H Q := h1 Q h2
def spLaw (PT : Addr) (K : PySem.W.Frag) : Sp := fun vs H Q _ => ∃ (a : Addr) (ns : List Int), vs = [.ref a] ∧ H PT = some (.tbl #[]) ∧ SqL K H a (ns.map V.int) ∧ ns.length ≤ 63 ∧ ∀ H', Q (.bl true) H'
theorem scLaw : FnScope ["script", "m", "turn", "stars", "handed", "web", "bent", "due", "told", "odd"] ["script"] (defScope sLaw) := ⟨rfl, rfl, rfl, by decide +kernel, rfl, by decide +kernel, by decide +kernel⟩
theorem ok_law {fB fR fW fM fK fT fU fH fI fN f C c0 c1 c2 c3 c4 c5 c6 c7 cR cT PT : Addr} {fdB fdR fdW fdM fdK fdT fdU fdI fdN : FuncData} {oc kV doc pm ct ocH kVH docH pmH cdvH ctH : Value} {od an odH anH : Option Addr} {osl oslH : Array (Option Value)} {tk : Tok}
    (lk : K.lookup f = some ⟨oc, od, .func (PySem.W.fnOf "law" "law" (defArgs sLaw) (defBody sLaw) (defScope sLaw) .none kV doc pm an (.ref cT) ct), osl⟩) (hcd : PySem.W.codeIn K (.ref cT) "law" = true) (TB : LamX.TabB base mg cT PT)
    (TE : Errs P K mg c0 c1 c2 c3 c4 c5 c6 c7 cR) (tX : ∀ (i : Nat) (D : Addr), [c0, c1, c2, c3, c4, c5, c6, c7][i]? = some D → PySem.W.exmAny K (.ref D) [.ref cR, .ref c7] = some true)
    (lkH : K.lookup fH = some ⟨ocH, odH, .func (PySem.W.fnOf "_law_heard" "_law_heard" (defArgs sHeard) (defBody sHeard) (defScope sHeard) .none kVH docH pmH anH cdvH ctH), oslH⟩) (cdH : PySem.W.codeIn K cdvH "_law_heard" = true) (gH : mg "_law_heard" = some (.ref fH)) (kH : PySem.W.keepIn K (.ref fH) = true)
    (bH : L2.Binds K (PySem.W.fnOf "_law_heard" "_law_heard" (defArgs sHeard) (defBody sHeard) (defScope sHeard) .none kVH docH pmH anH cdvH ctH) ["call"] [])
    (GB : FnOk P w K mg base CX0 2 fB fdB ["script"] (spBegun K)) (gB : mg "_law_begun" = some (.ref fB)) (kB : PySem.W.keepIn K (.ref fB) = true) (bB : L2.Binds K fdB ["script"] [])
    (GR : FnOk P w K mg base CX0 2 fR fdR ["m", "limit"] spDraw) (gR : mg "_law_draw" = some (.ref fR)) (kR : PySem.W.keepIn K (.ref fR) = true) (bR : L2.Binds K fdR ["m", "limit"] [])
    (GW : FnOk P w K mg base CX0 5 fW fdW ["m", "most"] spLWeb) (gW : mg "_law_web" = some (.ref fW)) (kW : PySem.W.keepIn K (.ref fW) = true) (bW : L2.Binds K fdW ["m", "most"] [])
    (GM : FnOk P w K mg base CX0 1 fM fdM ["stars"] (spMany K)) (gM : mg "_law_many" = some (.ref fM)) (kM : PySem.W.keepIn K (.ref fM) = true) (bM : L2.Binds K fdM ["stars"] [])
    (GK : FnG P w K mg base CX0 1 fK fdK ["told", "due"] (spLike K)) (gK : mg "_law_like" = some (.ref fK)) (kK : PySem.W.keepIn K (.ref fK) = true) (bK : L2.Binds K fdK ["told", "due"] [])
    (GT : FnOk P w K mg base CX0 3 fT fdT ["m", "stars"] (spBent K)) (gT : mg "_law_bent" = some (.ref fT)) (kT : PySem.W.keepIn K (.ref fT) = true) (bT : L2.Binds K fdT ["m", "stars"] [])
    (GU : FnOk P w K mg base CX0 2 fU fdU ["stars"] (spDueV K)) (gU : mg "_law_due" = some (.ref fU)) (kU : PySem.W.keepIn K (.ref fU) = true) (bU : L2.Binds K fdU ["stars"] [])
    (GI : FnOk P w K mg base CX0 4 fI fdI ["self", "stars"] (spWInit K C)) (GX : FnOk P w K mg base (L2.CX P w) 4 fI fdI ["self", "stars"] (spWInitX K C c0)) (bI : L2.Binds K fdI ["self", "stars"] []) (M : Mk K C fI) (T : WebC K mg C)
    (GN : FnOk P w K mg base CX0 1 fN fdN ["self"] (spWLen K C)) (aN : PySem.W.findIn K (.ref C) "__len__" = some (some (.ref fN))) (iN : PySem.W.isFn K (.ref fN) = true) (bN : L2.Binds K fdN ["self"] [])
    (gMT : mg "MOST_TIES" = some (.int 12 tk)) (mis : mg "isinstance" = none) (mle : mg "len" = none) (mz : mg "zip" = none) (mve : mg "ValueError" = none) (mli : mg "list" = none) (mt : mg "tuple" = none) (mra : mg "range" = none) :
    FnG P w K mg base CX0 8 f (PySem.W.fnOf "law" "law" (defArgs sLaw) (defBody sLaw) (defScope sLaw) .none kV doc pm an (.ref cT) ct) ["script"] (spLaw PT K) := by
  refine fn_ofG lk hcd scLaw (fun vs H Q E h => ?_) fun A outer s H vs Q E hgd hr h => ?_
  · obtain ⟨a, ns, rfl, _⟩ := h
    rfl
  suffices hh : ∃ t, PSs (cxOf CX0 P w K mg base ["script", "m", "turn", "stars", "handed", "web", "bent", "due", "told", "odd"] "law" (defScope sLaw) f (.ref cT) A outer s H E).nox (defBody sLaw) t ∧ t { nx := fun _ H' => Q .non H', rt := Q } (start ["script", "m", "turn", "stars", "handed", "web", "bent", "due", "told", "odd"] vs) H from
    let ⟨t, ht, q⟩ := hh
    ⟨t, ht.nox, q⟩
  obtain ⟨a, ns, rfl, hPT, hS, hl, hQ⟩ := h
  refine ⟨_, (pss_cons (ps_set (i := 1) scLaw.nd rfl (.inl rfl) (pe_call GB (hr.mono (by decide)) (by rfl) gB kB bB .nil pass0 (pa_cons (pv 0) pa_nil)))
      (pss_cons (ps_for PassesOwn.never rfl (pi_range1 (by rfl) mra (pa_cons pe_int pa_nil)) (pg_name (i := 2) scLaw.nd rfl (.inl rfl)) (pss_cons (ps_set (i := 3) scLaw.nd rfl (.inl rfl) (pe_call GW (hr.mono (by decide)) (by rfl) gW kW bW .nil pass0 (pa_cons (pv 1) (pa_cons pe_int pa_nil))))
      (pss_cons (ps_set (i := 4) scLaw.nd rfl (.inl rfl) (pe_callTy call_list_of (by rfl) mli (by decide +kernel) (pa_cons (pv 3) pa_nil)))
      (pss_cons (ps_set (i := 5) scLaw.nd rfl (.inl rfl) (pe_make M GI (hr.mono (by decide)) (by rfl) T.g bI .nil pass0 (pa_cons (pe_ix ix_list (pe_lst (pa_cons (pv 4) (pa_cons (pe_callTy call_tuple_of (by rfl) mt (by decide +kernel) (pa_cons (pv 4) pa_nil)) pa_nil))) (pe_call GR (hr.mono (by decide)) (by rfl) gR kR bR .nil pass0 (pa_cons (pv 1) (pa_cons pe_int pa_nil))) (fun _ _ => rfl)) pa_nil)))
      (pss_cons (ps_expr (pe_bm PySem.F.plainAttrs_list PySem.F.slot_list_append PySem.F.type_list_append mt_append (pv 4) (pa_cons (pe_tup (pa_cons pe_int pa_nil)) pa_nil)))
      (pss_cons (ps_if (pt_not (pt_val (pe_callG hgd GK (hr.mono (by decide)) (by rfl) gK kK bK .nil pass0 (pa_cons (pe_lst (pa_cons (pe_fld (pv 5) rfl) (pa_cons (pe_callB (call_lenOwn GN aN iN bN (hr.mono (by decide)) pass0) (by rfl) mle PySem.boot_len (pa_cons (pv 5) pa_nil)) pa_nil))) (pa_cons (pe_lst (pa_cons (pv 3) (pa_cons (pe_call GM (hr.mono (by decide)) (by rfl) gM kM bM .nil pass0 (pa_cons (pv 3) pa_nil)) pa_nil))) pa_nil))))) (pss_one (ps_ret pe_bl)) pss_nil)
      (pss_cons (ps_set (i := 6) scLaw.nd rfl (.inr rfl) (pe_call GT (hr.mono (by decide)) (by rfl) gT kT bT .nil pass0 (pa_cons (pv 1) (pa_cons (pv 3) pa_nil))))
      (pss_cons (ps_par (i := 7) (j := 8) (by rfl) scLaw.nd rfl rfl (by decide) rfl rfl (pa_cons (pe_call GU (hr.mono (by decide)) (by rfl) gU kU bU .nil pass0 (pa_cons (pv 6) pa_nil)) (pa_cons (pe_lam2 (t := fun E => tFld K (tMake C (spWInitX K C c0) [] E (tCons (tVar 6) tNil)) "stars") (T := [(PT, lamQ)]) (TT := TTheard [c0, c1, c2, c3, c4, c5, c6, c7]) (k := 5) (by rfl) gH kH lkH cdH bH scHeard rfl (.inl rfl) (heard_gives TE tX mis mle mz mve) TB rfl (List.mem_singleton.mpr rfl) (fun p hp _ => by rw [List.mem_singleton.mp hp]; rfl) (hr.mono (by decide)) (lamS_by (sc := defScope sLaw) (by decide +kernel)) rfl (fun _ _ _ _ _ => rfl) (fun A outer s H E f c2 hr2 => pe_fld (pe_make (E := E) M GX hr2 (by rfl) T.g bI .nil (passes_call (takes_of rfl rfl rfl rfl) (fun _ _ _ _ h => h)) (pa_cons (pv 6) pa_nil)) rfl)) pa_nil)) (by rfl))
      (pss_one (ps_if (pt_not (pt_val (pe_callG hgd GK (hr.mono (by decide)) (by rfl) gK kK bK .nil pass0 (pa_cons (pv 8) (pa_cons (pe_ifExp (pt_cmpR op_isN (pv 7) pe_non (nomark _)) (pe_lst (pa_cons (pe_callTy call_tuple_of (by rfl) mt (by decide +kernel) (pa_cons (pv 6) pa_nil)) pa_nil)) (pv 7)) pa_nil))))) (pss_one (ps_ret pe_bl)) pss_nil))))))))))
      (pss_cons (ps_set (i := 9) scLaw.nd rfl (.inr rfl) (pe_ix ix_list (pe_lst (pa_cons pe_non (pa_cons pe_int (pa_cons pe_str (pa_cons pe_dnewK (pa_cons pe_bl pa_nil)))))) (pe_call GR (hr.mono (by decide)) (by rfl) gR kR bR .nil pass0 (pa_cons (pv 1) (pa_cons pe_int pa_nil))) (fun _ _ => rfl)))
      (pss_cons (ps_if (PW.pt (pw_or (pt_cmpR (op_neD hr.units) (pe_lam2 (t := fun E => tMake C (spWInitX K C c0) [] E (tCons (tVar 9) tNil)) (T := [(PT, lamQ)]) (TT := TTheard [c0, c1, c2, c3, c4, c5, c6, c7]) (k := 5) (by rfl) gH kH lkH cdH bH scHeard rfl (.inl rfl) (heard_gives TE tX mis mle mz mve) TB rfl (List.mem_singleton.mpr rfl) (fun p hp _ => by rw [List.mem_singleton.mp hp]; rfl) (hr.mono (by decide)) (lamS_by (sc := defScope sLaw) (by decide +kernel)) rfl (fun _ _ _ _ _ => rfl) (fun A outer s H E f c2 hr2 => (pe_make (E := E) M GX hr2 (by rfl) T.g bI .nil (passes_call (takes_of rfl rfl rfl rfl) (fun _ _ _ _ h => h)) (pa_cons (pv 9) pa_nil)))) (pe_tup (pa_cons pe_str (pa_cons pe_non pa_nil))) (nomark _)) (pw_or (pt_cmpR op_ne (pe_callB (call_lenOwn GN aN iN bN (hr.mono (by decide)) pass0) (by rfl) mle PySem.boot_len (pa_cons (pe_make M GI (hr.mono (by decide)) (by rfl) T.g bI .nil pass0 (pa_cons (pe_tup pa_nil) pa_nil)) pa_nil)) pe_int (nomark _)) (pw_or1 (pt_cmpR op_ne (pe_glob (v := .int 12) (by rfl) gMT ⟨tk, rfl⟩) pe_int (nomark _)))))) (pss_one (ps_ret pe_bl)) pss_nil)
      (pss_one (ps_ret (pe_and (pe_cmpR (op_eqD hr.units) (pe_fld (pe_make M GI (hr.mono (by decide)) (by rfl) T.g bI .nil pass0 (pa_cons (pe_lst (pa_cons (pe_tup (pa_cons pe_int pa_nil)) (pa_cons (pe_tup (pa_cons pe_int (pa_cons pe_int pa_nil))) (pa_cons (pe_tup (pa_cons pe_int pa_nil)) pa_nil)))) pa_nil)) rfl) (pe_tup (pa_cons (pe_tup (pa_cons pe_int pa_nil)) (pa_cons (pe_tup (pa_cons pe_int (pa_cons pe_int pa_nil))) (pa_cons (pe_tup (pa_cons pe_int pa_nil)) pa_nil)))) (nomark _)) (pe_one (pe_cmpR (op_eqD hr.units) (pe_lam2 (t := fun E => tMake C (spWInitX K C c0) [] E (tCons (tLst (tCons (tTup (tCons (tC (.int 1)) tNil)) tNil)) tNil)) (T := [(PT, lamQ)]) (TT := TTheard [c0, c1, c2, c3, c4, c5, c6, c7]) (k := 5) (by rfl) gH kH lkH cdH bH scHeard rfl (.inl rfl) (heard_gives TE tX mis mle mz mve) TB rfl (List.mem_singleton.mpr rfl) (fun p hp _ => by rw [List.mem_singleton.mp hp]; rfl) (hr.mono (by decide)) (lamS_by (sc := defScope sLaw) (by decide +kernel)) rfl (fun _ _ _ _ _ => rfl) (fun A outer s H E f c2 hr2 => (pe_make (E := E) M GX hr2 (by rfl) T.g bI .nil (passes_call (takes_of rfl rfl rfl rfl) (fun _ _ _ _ h => h)) (pa_cons (pe_lst (pa_cons (pe_tup (pa_cons pe_int pa_nil)) pa_nil)) pa_nil)))) (pe_tup (pa_cons pe_str (pa_cons pe_int pa_nil))) (nomark _)))))))))), ?_⟩
  -- m = _law_begun(script)
  refine ⟨_, rfl, a, ns, rfl, hS, hl, fun H1 m g c s1 nm ng nc M1 => ?_⟩
  have tb1 : Tabs [(PT, lamQ)] H1 := fun p hp => by rw [List.mem_singleton.mp hp]; exact TabS.nil (s1 _ _ hPT)
  -- for turn in range(5)
  refine ⟨5, rfl, by decide, by decide, ?_⟩
  refine for_range (lo := 0) (n := 5) (fun i σ H' => ∃ (y2 y3 y4 y5 y6 y7 y8 : Option V) (k' : Int), σ = [some (.ref a), some (.ref m), y2, y3, y4, y5, y6, y7, y8, none] ∧ 0 ≤ k' ∧ k' ≤ 200 * i ∧ MSt H' m g c k' ∧ Tabs [(PT, lamQ)] H')
    ⟨none, none, none, none, none, none, none, 0, rfl, by omega, by omega, M1, tb1⟩ (fun i σ H2 hi hp => ?_) (fun σ H2 hp => ?_)
  · obtain ⟨y2, y3, y4, y5, y6, y7, y8, k', rfl, k0, k1, M2, tb2⟩ := hp
    -- stars
    refine ⟨_, rfl, m, g, c, k', 12, rfl, M2, by omega, by decide, by decide, fun H3 q ys ss n k3 a1 a2 M3 b3 nq oq eq Tq hG hL hn => ?_⟩
    have tb3 := lk_tabs (M2.lk b3) tb2
    have hys := Tq.1
    have hss := hG.len
    -- handed
    refine ⟨_, rfl, q, ys, rfl, .inr (SqT.of eq), fun L nL => ?_⟩
    have oL := M3.off nL
    have s4 := same_new (o := .lst ys) nL
    have eL : (upd H3 L (.lst ys)) L = some (.lst ys) := upd_same
    have M4 := M3.same s4
    have tb4 := lk_tabs (.same s4) tb3
    have eq4 := s4 _ _ eq
    have T4 := Tq.tp (.same s4)
    generalize upd H3 L (.lst ys) = H4 at s4 eL M4 tb4 eq4 T4 ⊢
    -- web
    refine ⟨_, rfl, _, rfl, L, ys, rfl, .inl ⟨SqL.of eL, fun t nt => ?_⟩⟩
    have s5 := same_new (o := .tup ys) nt
    have et : (upd H4 t (.tup ys)) t = some (.tup ys) := upd_same
    generalize upd H4 t (.tup ys) = H5 at s5 et ⊢
    refine ⟨by show 2 ≤ sizeLine; decide, fun W nW => ?_⟩
    have s6 := same_new (o := .lst [V.ref L, .ref t]) nW
    have eW : (upd H5 W (.lst [V.ref L, .ref t])) W = some (.lst [V.ref L, .ref t]) := upd_same
    have M5 := M4.same s5
    have oW := M5.off nW
    have M6 := M5.same s6
    have s46 := s5.trans s6
    have eL6 := s46 _ _ eL
    have et6 := s6 _ _ et
    have eq6 := s46 _ _ eq4
    have T6 := T4.tp (.same s46)
    have tb6 := lk_tabs (.same s46) tb4
    generalize upd H5 W (.lst [V.ref L, .ref t]) = H6 at s6 eW M6 s46 eL6 et6 eq6 T6 tb6 ⊢
    refine ⟨_, rfl, m, g, c, k3, 2, rfl, M6, by omega, by decide, by decide, fun r H7 r0 r1 M7 b7 => ?_⟩
    have lk7 := M6.lk b7
    have eL7 := b7 _ _ eL6 oL.m oL.g
    have eW7 := b7 _ _ eW oW.m oW.g
    have et7 := lk7 _ _ et6 (fun _ z => nomatch z) (fun _ z => nomatch z)
    have eq7 := lk7 _ _ eq6 (fun _ z => nomatch z) (fun _ z => nomatch z)
    have T7 := lk_tups lk7 T6
    have tb7 := lk_tabs lk7 tb6
    have pick : ∃ u : Addr, atI [V.ref L, .ref t] r = some (.ref u) ∧ SqA K H7 u ys := by
      obtain ⟨z, rfl⟩ := Int.eq_ofNat_of_zero_le r0
      have hz : z < 2 := by omega
      match z, hz with
      | 0, _ => exact ⟨_, rfl, .inl (SqL.of eL7)⟩
      | 1, _ => exact ⟨_, rfl, .inr (SqT.of et7)⟩
    obtain ⟨u, hu, hU⟩ := pick
    refine ⟨W, _, r, _, rfl, rfl, SqL.of eW7, hu, ?_⟩
    intro x dx nx ndx nxd
    have nx8 : (upd H7 dx (.own x)) x = none := by rw [upd_ne nxd.symm]; exact nx
    have s8 : Same H7 (upd (upd H7 dx (.own x)) x (.ins C dx [])) := (same_new ndx).trans (same_new nx8)
    have ex8 : (upd (upd H7 dx (.own x)) x (.ins C dx [])) x = some (.ins C dx []) := upd_same
    generalize upd (upd H7 dx (.own x)) x (.ins C dx []) = H8 at s8 ex8 ⊢
    refine ⟨x, u, dx, ys, ss, n, rfl, ex8, hU.same s8, (T7.stars (K := K)).same s8, hG, hL, fun H9 bx9 hW => ⟨rfl, ?_⟩⟩
    have s79 : Same H7 H9 := fun b o e => bx9 b o (ne_of_none e nx) (s8 b o e)
    have M9 := M7.same s79
    have eL9 := s79 _ _ eL7
    have eq9 := s79 _ _ eq7
    have T9 := T7.tp (.same s79)
    have tb9 := lk_tabs (.same s79) tb7
    clear M1 M2 M3 M4 M5 M6 M7 tb1 tb2 tb3 tb4 tb6 tb7 b3 b7 eq eq4 eq6 eq7 T4 T6 T7 Tq eL eL6 eL7 et et6 et7 eW eW7 s4 s5 s6 s46 s8 s79 bx9 ex8 nx8 hU hu lk7
    -- handed.append((0,))
    refine ⟨_, rfl, .inl ⟨rfl, _, SqL.of eL9⟩, ?_⟩
    refine ⟨by show 1 ≤ sizeLine; decide, fun z nz => ?_⟩
    have sz := same_new (o := .tup [V.int 0]) nz
    have eLz := sz _ _ eL9
    have Mz := M9.same sz
    have eqz := sz _ _ eq9
    have Tz := T9.tp (.same sz)
    have tbz := lk_tabs (.same sz) tb9
    have hWz := hW.same sz
    generalize upd H9 z (.tup [V.int 0]) = H10 at sz eLz Mz eqz Tz tbz hWz ⊢
    refine ⟨L, _, _, rfl, rfl, eLz, small1000 (by omega), ?_⟩
    have lk11 : Lk H10 (upd H10 L (.lst (ys ++ [.ref z]))) := .upd eLz
    have M11 := Mz.upd (o := .lst (ys ++ [.ref z])) oL
    have eq11 := lk11 _ _ eqz (fun _ z => nomatch z) (fun _ z => nomatch z)
    have T11 := lk_tups lk11 Tz
    have tb11 := lk_tabs lk11 tbz
    have hW11 := lk_web lk11 hWz
    generalize upd H10 L (.lst (ys ++ [.ref z])) = H11 at lk11 M11 eq11 T11 tb11 hW11 ⊢
    clear M9 Mz eLz eqz Tz tbz hWz lk11 sz eL9 eq9 T9 tb9 hW
    -- _law_like([web.stars, len(web)], [stars, _law_many(stars)])
    have hW' := hW11
    obtain ⟨dx2, p, q2, xs, w1, w2, w3, w4⟩ := hW'
    refine ⟨_, rfl, x, C, dx2, _, _, rfl, w1, T.cl, T.nSt, wf_stars _ _, ?_⟩
    refine ⟨_, rfl, x, dx2, _, rfl, w1, x, ss, n, rfl, hW11, by have := hG.k12; omega, n, rfl, by omega, by have := hG.k12; omega, ?_⟩
    refine ⟨by show 2 ≤ sizeLine; decide, fun A1 nA1 => ?_⟩
    have sA := same_new (o := .lst [V.ref p, .int n]) nA1
    have eA : (upd H11 A1 (.lst [V.ref p, .int n])) A1 = some (.lst [V.ref p, .int n]) := upd_same
    generalize upd H11 A1 (.lst [V.ref p, .int n]) = H12 at sA eA ⊢
    refine ⟨_, rfl, _, rfl, q, ys, ss, n, rfl, SqT.of (sA _ _ eq11), (T11.stars (K := K)).same sA, hG, hL, fun H13 s13 => ?_⟩
    refine ⟨by show 2 ≤ sizeLine; decide, fun B1 nB1 => ?_⟩
    have sB := same_new (o := .lst [V.ref q, .int n]) nB1
    have eB : (upd H13 B1 (.lst [V.ref q, .int n])) B1 = some (.lst [V.ref q, .int n]) := upd_same
    generalize upd H13 B1 (.lst [V.ref q, .int n]) = H14 at sB eB ⊢
    have s14 := sA.trans (s13.trans sB)
    refine ⟨A1, B1, .list [dat ss, .int n], .list [dat ss, .int n], rfl, .lst (SqL.of (sB _ _ (s13 _ _ eA))) (.cons (de_stars (same_tup s14 w2) (w3.same s14)) (.cons (.int _) .nil)),
      .lst (SqL.of eB) (.cons (de_stars (SqT.of (s14 _ _ eq11)) ((T11.stars (K := K)).same s14)) (.cons (.int _) .nil)), shows_two hG, shows_two hG, ?_⟩
    rw [decide_eq_true rfl]
    refine ⟨true, rfl, ite_ff ?_⟩
    have M14 := M11.same s14
    have tb14 := lk_tabs (.same s14) tb11
    have eq14 := s14 _ _ eq11
    have T14 := T11.tp (.same s14)
    clear s14 sA sB s13 eA eB w1 w2 w3 w4 hW11 M11 tb11 eq11 T11
    -- bent
    refine ⟨_, rfl, _, rfl, m, g, c, q, k3 + 1, ys, ss, n, rfl, M14, by omega, eq14, T14, hG, fun H15 R zs k4 d1 d2 M15 b15 nR oR eR fR lR => ?_⟩
    have tb15 := lk_tabs (M14.lk b15) tb14
    obtain ⟨its, hI, lits⟩ := fR.items (K := K)
    -- due
    refine ⟨_, rfl, R, zs, its, rfl, SqL.of eR, hI, by omega, fun due H16 s16 hdue => ?_⟩
    have M16 := M15.same s16
    have eR16 := s16 _ _ eR
    have f16 := fR.same s16
    clear M14 b15 tb14 eq14 T14
    -- told
    refine ⟨lk_tabs (.same s16) tb15, fun H17 x17 tb17 => ?_⟩
    have M17 := M16.extN x17
    have eR17 := x17 _ _ eR16 (fun _ z => nomatch z)
    have f17 := f16.extN x17
    have hdue17 : judge its = none ∧ due = .non ∨ ∃ (n : Nat) (q : Addr), judge its = some n ∧ due = .ref q ∧ H17 q = some (.tup [.str "stars", .int (n : Nat)]) := by
      rcases hdue with h | ⟨n, q, h1, h2, h3⟩
      · exact .inl h
      · exact .inr ⟨n, q, h1, h2, x17 _ _ h3 (fun _ z => nomatch z)⟩
    have I17 : Items K H17 zs its := ⟨hI.1, fun i o e => by
      obtain ⟨v, h1, h2⟩ := hI.2 i o e
      refine ⟨v, h1, ?_⟩
      cases h2 with
      | non => exact .non
      | int i => exact .int i
      | lst hz => exact .lst (xsq hz s16 x17)
      | odd hz ez => exact .odd hz (xtup ez s16 x17)
      | tup ez hz => exact .tup (xtup ez s16 x17) hz⟩
    refine heard_go (fun v H' => Same H17 H' ∧ ∃ p, v = .ref p ∧ ((∃ n : Nat, judge its = some n ∧ H' p = some (.tup [.str "stars", .int n])) ∨ (judge its = none ∧ ∃ ss2 k2 p2 xs2, its = ss2.map some ∧ Good ss2 k2 ∧ H' p = some (.lst [.ref p2]) ∧ SqT K H' p2 xs2 ∧ Stars K H' xs2 ss2))) (fun Q' hq H18 s18 => ?_) (fun told H21 hS => ?_)
    · refine ⟨_, rfl, ?_⟩
      intro x6 dx6 n1 n2 n3
      have nx8 : (upd H18 dx6 (.own x6)) x6 = none := by rw [upd_ne n3.symm]; exact n1
      have s8 : Same H18 (upd (upd H18 dx6 (.own x6)) x6 (.ins C dx6 [])) := (same_new n2).trans (same_new nx8)
      have ex8 : (upd (upd H18 dx6 (.own x6)) x6 (.ins C dx6 [])) x6 = some (.ins C dx6 []) := upd_same
      generalize upd (upd H18 dx6 (.own x6)) x6 (.ins C dx6 []) = H19 at s8 ex8 ⊢
      have s19 := s18.trans s8
      refine ⟨x6, dx6, .ref R, rfl, ex8, .inr ⟨R, zs, its, rfl, .inl (SqL.of (s19 _ _ eR17)), I17.same s19, by omega, fun k hj => ?_, fun ss2 k2 hi hj hG2 H20 bx hW2 => ⟨rfl, ?_⟩⟩⟩
      · intro d H20 s20 ed
        refine ⟨0, c0, _, by decide, rfl, rfl, fun z => absurd z (by decide), fun _ => ⟨d, rfl, ed⟩, fun r H21 s21 hr => hq _ _ ⟨s19.trans (s20.trans s21), ?_⟩⟩
        obtain ⟨p, rfl, ep⟩ : ∃ p, r = .ref p ∧ H21 p = some (.tup [.str "stars", .int (k : Nat)]) := hr
        exact ⟨p, rfl, .inl ⟨k, hj, ep⟩⟩
      · obtain ⟨dx2, p2, q2, xs2, w1, w2, w3, w4⟩ := hW2
        refine ⟨x6, C, dx2, _, _, rfl, w1, T.cl, T.nSt, wf_stars _ _, fun p H21 s21 ep => hq _ _ ⟨?_, p, rfl, .inr ⟨hj, ss2, k2, p2, xs2, hi, hG2, ep, same_tup s21 w2, w3.same s21⟩⟩⟩
        exact Same.trans (fun b o e => bx b o (ne_of_none (s18 _ _ e) n1) (s19 b o e)) s21
    obtain ⟨s21, pt, rfl, htold⟩ := hS
    have M21 := M17.same s21
    have tb21 := lk_tabs (.same s21) tb17
    have eR21 := s21 _ _ eR17
    have I21 := I17.same s21
    refine ⟨_, _, rfl, ?_⟩
    refine ⟨_, rfl, ?_⟩
    rcases hdue17 with ⟨hj, rfl⟩ | ⟨n9, qd, hj, rfl, eqd⟩
    · -- the stars are right
      rcases htold with ⟨n8, hj8, _⟩ | ⟨_, ss2, k2, p2, xs2, hi, hG2, ep, hp2, hx2⟩
      · rw [hj] at hj8; cases hj8
      refine ⟨_, rfl, rfl, true, rfl, ite_tt ?_⟩
      refine ⟨_, rfl, R, zs, rfl, .inl ⟨SqL.of eR21, fun t2 nt2 => ?_⟩⟩
      have s22 := same_new (o := .tup zs) nt2
      have e22 : (upd H21 t2 (.tup zs)) t2 = some (.tup zs) := upd_same
      generalize upd H21 t2 (.tup zs) = H22 at s22 e22 ⊢
      refine ⟨by show 1 ≤ sizeLine; decide, fun l2 nl2 => ?_⟩
      have s23 := same_new (o := .lst [V.ref t2]) nl2
      have e23 : (upd H22 l2 (.lst [V.ref t2])) l2 = some (.lst [V.ref t2]) := upd_same
      generalize upd H22 l2 (.lst [V.ref t2]) = H23 at s23 e23 ⊢
      have s223 := s22.trans s23
      rw [hi] at I21
      obtain ⟨hst, _⟩ := items_stars I21
      refine ⟨pt, l2, .list [dat ss2], .list [dat ss2], rfl, .lst (SqL.of (s223 _ _ ep)) (.cons (de_stars (same_tup s223 hp2) (hx2.same s223)) .nil), .lst (SqL.of e23) (.cons (de_stars (SqT.of (s23 _ _ e22)) (hst.same s223)) .nil), shows_one hG2, shows_one hG2, ?_⟩
      rw [decide_eq_true rfl]
      refine ⟨true, rfl, ite_ff ?_⟩
      exact ⟨_, _, _, _, _, _, _, k4, rfl, by omega, by omega, M21.same s223, lk_tabs (.same s223) tb21⟩
    · rcases htold with ⟨n8, hj8, ep⟩ | ⟨hj8, _⟩
      · rw [hj] at hj8
        cases hj8
        have hn9 := judge_le its 0 [] [] n9 hj
        refine ⟨_, rfl, rfl, false, rfl, ite_ff ?_⟩
        refine ⟨_, rfl, ?_⟩
        refine ⟨pt, qd, .tuple [.str "stars", .int (n9 : Nat)], .tuple [.str "stars", .int (n9 : Nat)], rfl, .tup (SqT.of ep) (.cons (.str _) (.cons (.int _) .nil)), .tup (SqT.of (s21 _ _ eqd)) (.cons (.str _) (.cons (.int _) .nil)), shows_bad (by omega), shows_bad (by omega), ?_⟩
        rw [decide_eq_true rfl]
        refine ⟨true, rfl, ite_ff ?_⟩
        exact ⟨_, _, _, _, _, _, _, k4, rfl, by omega, by omega, M21, tb21⟩
      · rw [hj] at hj8; cases hj8
  -- behind the loop
  obtain ⟨y2, y3, y4, y5, y6, y7, y8, k', rfl, k0, k1, M2, tb2⟩ := hp
  refine fun D nD => ?_
  have sD := same_new (o := .dK []) nD
  have eD : (upd H2 D (.dK [])) D = some (.dK []) := upd_same
  have oD := M2.off nD
  have M3 := M2.same sD
  generalize upd H2 D (.dK []) = H3 at sD eD M3 ⊢
  refine ⟨by show 5 ≤ sizeLine; decide, fun O nO => ?_⟩
  have sO := same_new (o := .lst [V.non, .int 5, .str "01", .ref D, .bl true]) nO
  have eO : (upd H3 O (.lst [V.non, .int 5, .str "01", .ref D, .bl true])) O = some (.lst [V.non, .int 5, .str "01", .ref D, .bl true]) := upd_same
  have oO := M3.off nO
  have M4 := M3.same sO
  have tb4 := lk_tabs (.same (sD.trans sO)) tb2
  have eD4 := sO _ _ eD
  generalize upd H3 O (.lst [V.non, .int 5, .str "01", .ref D, .bl true]) = H4 at sO eO M4 tb4 eD4 ⊢
  refine ⟨_, rfl, m, g, c, k', 5, rfl, M4, by omega, by decide, by decide, fun r H5 r0 r1 M5 b5 => ?_⟩
  have eO5 := b5 _ _ eO oO.m oO.g
  have eD5 := b5 _ _ eD4 oD.m oD.g
  have tb5 := lk_tabs (M4.lk b5) tb4
  have pick : ∃ v, atI [V.non, .int 5, .str "01", .ref D, .bl true] r = some v ∧ ∀ H' : Hp, H' D = some (.dK []) → NoSeq K H' v := by
    obtain ⟨z, rfl⟩ := Int.eq_ofNat_of_zero_le r0
    have hz : z < 5 := by omega
    match z, hz with
    | 0, _ => exact ⟨_, rfl, fun H' e => noSeq_of (.base .non) (kit_ty (by decide +kernel)) (kit_ty (by decide +kernel))⟩
    | 1, _ => exact ⟨_, rfl, fun H' e => noSeq_of (.base (.int 5)) (kit_ty (by decide +kernel)) (kit_ty (by decide +kernel))⟩
    | 2, _ => exact ⟨_, rfl, fun H' e => noSeq_of (.base (.str "01")) (kit_ty (by decide +kernel)) (kit_ty (by decide +kernel))⟩
    | 3, _ => exact ⟨_, rfl, fun H' e => noSeq_of (.base (.dK e)) (kit_ty (by decide +kernel)) (kit_ty (by decide +kernel))⟩
    | 4, _ => exact ⟨_, rfl, fun H' e => noSeq_of (.base (.bl true)) (kit_ty (by decide +kernel)) (kit_ty (by decide +kernel))⟩
  obtain ⟨odd, ho, hno⟩ := pick
  refine ⟨O, _, r, odd, rfl, rfl, SqL.of eO5, ho, ?_⟩
  clear M2 M3 M4 tb2 tb4 eO eO5 eD eD4 b5 sD sO ho
  -- _law_heard(lambda: Web(odd)) != ('stars', None)
  refine ⟨tb5, fun H6 x6 tb6 => ?_⟩
  have eD6 := x6 _ _ eD5 (fun _ z => nomatch z)
  refine heard_go (fun v H' => Same H6 H' ∧ ∃ p, v = .ref p ∧ H' p = some (.tup [.str "stars", .non])) (fun Q' hq H7 s7 => ?_) (fun told H8 hS => ?_)
  · refine ⟨_, rfl, ?_⟩
    intro x dx n1 n2 n3
    have nx8 : (upd H7 dx (.own x)) x = none := by rw [upd_ne n3.symm]; exact n1
    have s8 : Same H7 (upd (upd H7 dx (.own x)) x (.ins C dx [])) := (same_new n2).trans (same_new nx8)
    have ex8 : (upd (upd H7 dx (.own x)) x (.ins C dx [])) x = some (.ins C dx []) := upd_same
    generalize upd (upd H7 dx (.own x)) x (.ins C dx []) = H9 at s8 ex8 ⊢
    have s9 := s7.trans s8
    refine ⟨x, dx, odd, rfl, ex8, .inl ⟨fun H' s' => hno _ (s' _ _ (s9 _ _ eD6)), ?_⟩⟩
    intro d H10 s10 ed
    refine ⟨0, c0, _, by decide, rfl, rfl, fun z => absurd z (by decide), fun _ => ⟨d, rfl, ed⟩, fun r H21 s21 hr => hq _ _ ⟨s9.trans (s10.trans s21), ?_⟩⟩
    obtain ⟨p, rfl, ep⟩ : ∃ p, r = .ref p ∧ H21 p = some (.tup [.str "stars", .non]) := hr
    exact ⟨p, rfl, ep⟩
  obtain ⟨s8, pt, rfl, ep⟩ := hS
  have tb8 := lk_tabs (.same s8) tb6
  refine ⟨by show 2 ≤ sizeLine; decide, fun p2 np2 => ?_⟩
  have s9 := same_new (o := .tup [V.str "stars", .non]) np2
  have ep2 : (upd H8 p2 (.tup [V.str "stars", .non])) p2 = some (.tup [V.str "stars", .non]) := upd_same
  have ep9 := s9 _ _ ep
  have tb9 := lk_tabs (.same s9) tb8
  generalize upd H8 p2 (.tup [V.str "stars", .non]) = H9 at s9 ep2 ep9 tb9 ⊢
  refine ⟨.tuple [.str "stars", .none], .tuple [.str "stars", .none], .tup (SqT.of ep9) (.cons (.str _) (.cons .non .nil)), .tup (SqT.of ep2) (.cons (.str _) (.cons .non .nil)), by decide +kernel, by decide +kernel, false, by decide +kernel, ite_ff ?_⟩
  clear s8 s9 ep ep2 ep9 tb8 tb6 tb5
  -- len(Web(())) != 0
  refine ⟨by show 0 ≤ sizeLine; decide, fun e0 ne0 => ?_⟩
  have s10 := same_new (o := .tup []) ne0
  have ee0 : (upd H9 e0 (.tup [])) e0 = some (.tup []) := upd_same
  have tb10 := lk_tabs (.same s10) tb9
  generalize upd H9 e0 (.tup []) = H10 at s10 ee0 tb10 ⊢
  intro x dx n1 n2 n3
  have nx8 : (upd H10 dx (.own x)) x = none := by rw [upd_ne n3.symm]; exact n1
  have s8 : Same H10 (upd (upd H10 dx (.own x)) x (.ins C dx [])) := (same_new n2).trans (same_new nx8)
  have ex8 : (upd (upd H10 dx (.own x)) x (.ins C dx [])) x = some (.ins C dx []) := upd_same
  generalize upd (upd H10 dx (.own x)) x (.ins C dx []) = H11 at s8 ex8 ⊢
  refine ⟨x, e0, dx, [], [], 0, rfl, ex8, .inr (SqT.of (s8 _ _ ee0)), stars_nil, good_nil, fun s hs => by simp at hs, fun H12 bx hW => ⟨rfl, ?_⟩⟩
  have s12 : Same H10 H12 := fun b o e => bx b o (ne_of_none e n1) (s8 b o e)
  have tb12 := lk_tabs (.same s12) tb10
  have hW' := hW
  obtain ⟨dx2, p3, q3, xs3, w1, w2, w3, w4⟩ := hW'
  refine ⟨x, dx2, _, rfl, w1, x, [], 0, rfl, hW, by omega, 0, rfl, by omega, by omega, ?_⟩
  refine ⟨rfl, false, rfl, ite_ff ?_⟩
  refine ⟨rfl, false, rfl, ite_ff ?_⟩
  clear s8 s10 s12 tb9 tb10 hW w1 w2 w3 w4 bx ex8 nx8 ee0
  -- the return
  refine ⟨by show 1 ≤ sizeLine; decide, fun t1 nt1 => ?_⟩
  have z1 := same_new (o := .tup [V.int 0]) nt1
  have e1 : (upd H12 t1 (.tup [V.int 0])) t1 = some (.tup [V.int 0]) := upd_same
  generalize upd H12 t1 (.tup [V.int 0]) = G1 at z1 e1 ⊢
  refine ⟨by show 2 ≤ sizeLine; decide, fun t2 nt2 => ?_⟩
  have z2 := same_new (o := .tup [V.int 0, .int 1]) nt2
  have e2 : (upd G1 t2 (.tup [V.int 0, .int 1])) t2 = some (.tup [V.int 0, .int 1]) := upd_same
  generalize upd G1 t2 (.tup [V.int 0, .int 1]) = G2 at z2 e2 ⊢
  refine ⟨by show 1 ≤ sizeLine; decide, fun t3 nt3 => ?_⟩
  have z3 := same_new (o := .tup [V.int 1]) nt3
  have e3 : (upd G2 t3 (.tup [V.int 1])) t3 = some (.tup [V.int 1]) := upd_same
  generalize upd G2 t3 (.tup [V.int 1]) = G3 at z3 e3 ⊢
  refine ⟨by show 3 ≤ sizeLine; decide, fun t4 nt4 => ?_⟩
  have z4 := same_new (o := .lst [V.ref t1, .ref t2, .ref t3]) nt4
  have e4 : (upd G3 t4 (.lst [V.ref t1, .ref t2, .ref t3])) t4 = some (.lst [V.ref t1, .ref t2, .ref t3]) := upd_same
  generalize upd G3 t4 (.lst [V.ref t1, .ref t2, .ref t3]) = G4 at z4 e4 ⊢
  intro y dy n1 n2 n3
  have nx8 : (upd G4 dy (.own y)) y = none := by rw [upd_ne n3.symm]; exact n1
  have s8 : Same G4 (upd (upd G4 dy (.own y)) y (.ins C dy [])) := (same_new n2).trans (same_new nx8)
  have ex8 : (upd (upd G4 dy (.own y)) y (.ins C dy [])) y = some (.ins C dy []) := upd_same
  generalize upd (upd G4 dy (.own y)) y (.ins C dy []) = G5 at s8 ex8 ⊢
  have e15 := s8 _ _ (z4 _ _ (z3 _ _ (z2 _ _ e1)))
  have e25 := s8 _ _ (z4 _ _ (z3 _ _ e2))
  have e35 := s8 _ _ (z4 _ _ e3)
  refine ⟨y, t4, dy, _, [[0], [0, 1], [1]], 2, rfl, ex8, .inl (SqL.of (s8 _ _ e4)), .cons (SqT.of e15) (.cons (SqT.of e25) (.cons (SqT.of e35) stars_nil)), good_own, fun s hs => ?_, fun G6 bx hW => ⟨rfl, ?_⟩⟩
  · simp at hs
    rcases hs with rfl | rfl | rfl <;> decide
  have sG : Same H12 G6 := fun b o e => bx b o (ne_of_none (z4 _ _ (z3 _ _ (z2 _ _ (z1 _ _ e)))) n1) (s8 b o (z4 _ _ (z3 _ _ (z2 _ _ (z1 _ _ e)))))
  have tbG := lk_tabs (.same sG) tb12
  obtain ⟨dx4, p4, q4, xs4, w1, w2, w3, w4⟩ := hW
  refine ⟨y, C, dx4, _, _, rfl, w1, T.cl, T.nSt, wf_stars _ _, ?_⟩
  clear z1 z2 z3 z4 e1 e2 e3 e4 e15 e25 e35 s8 ex8 nx8 n1 n2 n3 bx
  refine ⟨by show 1 ≤ sizeLine; decide, fun t1 nt1 => ?_⟩
  have z1 := same_new (o := .tup [V.int 0]) nt1
  have e1 : (upd G6 t1 (.tup [V.int 0])) t1 = some (.tup [V.int 0]) := upd_same
  generalize upd G6 t1 (.tup [V.int 0]) = G1 at z1 e1 ⊢
  refine ⟨by show 2 ≤ sizeLine; decide, fun t2 nt2 => ?_⟩
  have z2 := same_new (o := .tup [V.int 0, .int 1]) nt2
  have e2 : (upd G1 t2 (.tup [V.int 0, .int 1])) t2 = some (.tup [V.int 0, .int 1]) := upd_same
  generalize upd G1 t2 (.tup [V.int 0, .int 1]) = G2 at z2 e2 ⊢
  refine ⟨by show 1 ≤ sizeLine; decide, fun t3 nt3 => ?_⟩
  have z3 := same_new (o := .tup [V.int 1]) nt3
  have e3 : (upd G2 t3 (.tup [V.int 1])) t3 = some (.tup [V.int 1]) := upd_same
  generalize upd G2 t3 (.tup [V.int 1]) = G3 at z3 e3 ⊢
  refine ⟨by show 3 ≤ sizeLine; decide, fun t4 nt4 => ?_⟩
  have z4 := same_new (o := .tup [V.ref t1, .ref t2, .ref t3]) nt4
  have e4 : (upd G3 t4 (.tup [V.ref t1, .ref t2, .ref t3])) t4 = some (.tup [V.ref t1, .ref t2, .ref t3]) := upd_same
  generalize upd G3 t4 (.tup [V.ref t1, .ref t2, .ref t3]) = G4 at z4 e4 ⊢
  have z14 := z1.trans (z2.trans (z3.trans z4))
  have h3 : Stars K G4 [.ref t1, .ref t2, .ref t3] [[0], [0, 1], [1]] := .cons (SqT.of (z4 _ _ (z3 _ _ (z2 _ _ e1)))) (.cons (SqT.of (z4 _ _ (z3 _ _ e2))) (.cons (SqT.of (z4 _ _ e3)) stars_nil))
  refine ⟨dat [[0], [0, 1], [1]], dat [[0], [0, 1], [1]], dp_stars (same_tup z14 w2) (w3.same z14), dp_stars (SqT.of e4) h3, shaped_dat _, shaped_dat _, true, congrArg V.bl (eqv_dat _), ite_tt ?_⟩
  have tb := lk_tabs (.same z14) tbG
  clear z1 z2 z3 z4 e1 e2 e3 e4 w1 w2 w3 w4 h3 tbG tb12
  -- _law_heard(lambda: Web([(1,)])) == ('stars', 1)
  refine ⟨tb, fun H6 x6 tb6 => ?_⟩
  refine heard_go (fun v H' => Same H6 H' ∧ ∃ p, v = .ref p ∧ H' p = some (.tup [.str "stars", .int 1])) (fun Q' hq H7 s7 => ?_) (fun told H8 hS => ?_)
  · refine ⟨by show 1 ≤ sizeLine; decide, fun t1 nt1 => ?_⟩
    have z1 := same_new (o := .tup [V.int 1]) nt1
    have e1 : (upd H7 t1 (.tup [V.int 1])) t1 = some (.tup [V.int 1]) := upd_same
    generalize upd H7 t1 (.tup [V.int 1]) = G1 at z1 e1 ⊢
    refine ⟨by show 1 ≤ sizeLine; decide, fun t2 nt2 => ?_⟩
    have z2 := same_new (o := .lst [V.ref t1]) nt2
    have e2 : (upd G1 t2 (.lst [V.ref t1])) t2 = some (.lst [V.ref t1]) := upd_same
    generalize upd G1 t2 (.lst [V.ref t1]) = G2 at z2 e2 ⊢
    intro x dx n1 n2 n3
    have nx8 : (upd G2 dx (.own x)) x = none := by rw [upd_ne n3.symm]; exact n1
    have s8 : Same G2 (upd (upd G2 dx (.own x)) x (.ins C dx [])) := (same_new n2).trans (same_new nx8)
    have ex8 : (upd (upd G2 dx (.own x)) x (.ins C dx [])) x = some (.ins C dx []) := upd_same
    generalize upd (upd G2 dx (.own x)) x (.ins C dx []) = H9 at s8 ex8 ⊢
    have s9 := s7.trans (z1.trans (z2.trans s8))
    have hj : judge [some [1]] = some 1 := by decide +kernel
    refine ⟨x, dx, .ref t2, rfl, ex8, .inr ⟨t2, _, [some [1]], rfl, .inl (SqL.of (s8 _ _ e2)), ⟨rfl, fun i o e => ?_⟩, by decide, fun k hk => ?_, fun ss2 k2 hi hj2 => ?_⟩⟩
    · match i with
      | 0 => cases e; exact ⟨_, rfl, .tup (ns := [1]) (SqT.of (s8 _ _ (z2 _ _ e1))) (by decide)⟩
      | i + 1 => simp at e
    · rw [hj] at hk
      cases hk
      intro d H10 s10 ed
      refine ⟨0, c0, _, by decide, rfl, rfl, fun z => absurd z (by decide), fun _ => ⟨d, rfl, ed⟩, fun r H21 s21 hr => hq _ _ ⟨s9.trans (s10.trans s21), ?_⟩⟩
      obtain ⟨p, rfl, ep⟩ : ∃ p, r = .ref p ∧ H21 p = some (.tup [.str "stars", .int 1]) := hr
      exact ⟨p, rfl, ep⟩
    · rw [hj] at hj2; cases hj2
  obtain ⟨s8, pt, rfl, ep⟩ := hS
  refine ⟨by show 2 ≤ sizeLine; decide, fun p2 np2 => ?_⟩
  have s9 := same_new (o := .tup [V.str "stars", .int 1]) np2
  have ep2 : (upd H8 p2 (.tup [V.str "stars", .int 1])) p2 = some (.tup [V.str "stars", .int 1]) := upd_same
  have ep9 := s9 _ _ ep
  generalize upd H8 p2 (.tup [V.str "stars", .int 1]) = H9 at s9 ep2 ep9 ⊢
  exact ⟨.tuple [.str "stars", .int 1], .tuple [.str "stars", .int 1], .tup (SqT.of ep9) (.cons (.str _) (.cons (.int _) .nil)), .tup (SqT.of ep2) (.cons (.str _) (.cons (.int _) .nil)), by decide +kernel, by decide +kernel, (by rw [show PyData.eqv (.tuple [.str "stars", .int 1]) (.tuple [.str "stars", .int 1]) = true from by decide +kernel]; exact hQ _)⟩

end
end Sg

namespace Sx
open PySem PySem.W PySem.Calls PyProof.Rows Builtin Builtin.ObjectAttr
section
variable {prog : Program} {w : World} {A : Around} {R : Result → Shared → Prop} {h : Heap} {g : Array GenState} {d : Drawn} {t : Nat} {os : OsState} {K : Frag} {C : Addr} {B newId initId : String} {bmB : List Value}
/-- C(p=v): a new exception object that keeps v -/
theorem make_kw {fI cc cda : Addr} {qual : Str} {scope : Scope} {params : Arguments} {mg mb : Str → Option Value} {oc kV doc pm ct dV : Value} {an od : Option Addr} {osl : Array (Option Value)} {name f p : Str} {p0 p1 p2 p3 p4 p5 p6 p7 p8 p9 : Pos} {msg : Str} {k4 : Nat}
    {v : Value} (T : SupC K prog C fI cc cda B newId initId bmB qual "self" scope params) (np : ¬ ("self" : Str) = p) (hpl : scope.names.lookup p = some .local) (hf : takerIn K C f = some none)
    (lk : K.lookup fI = some ⟨oc, od, .func (ksFn name qual params [.Expr (.Call (.Attribute (.Call (.Name "super" p0) [] [] p1) "__init__" p2) [.Constant (.str msg) k4 p3] [] p4) p5, .Assign [.Attribute (.Name "self" p6) f p7] (.Name p p8) p9] scope dV kV doc pm an (.ref cda) ct cc), osl⟩)
    (X : K.In h) (hl : h.NoLimit) (hg : h.Ns mainGlobals mg) (hms : mg "super" = none) (hb : h.Ns builtinsNs mb) (hbs : mb "super" = some (.type "super")) (hr : A.depth + 1 < recursionLimit)
    (hbind : ∀ (s : Shared) (x y : Value), BindsTo s (ksFn name qual params [.Expr (.Call (.Attribute (.Call (.Name "super" p0) [] [] p1) "__init__" p2) [.Constant (.str msg) k4 p3] [] p4) p5, .Assign [.Attribute (.Name "self" p6) f p7] (.Name p p8) p9] scope dV kV doc pm an (.ref cda) ct cc) ⟨[x], [(p, y)]⟩ [("self", x), (p, y)])
    (hev : ∀ L, ∃ pl : Sem Bool, PySem.eval (.Call (.Attribute (.Call (.Name "super" p0) [] [] p1) "__init__" p2) [.Constant (.str msg) k4 p3] [] p4) (ksEnv qual scope L fI (.ref cda) cc) = (do
      let ov ← attributeBase (.Call (.Name "super" p0) [] [] p1) "__init__" (ksEnv qual scope L fI (.ref cda) cc) (PySem.eval (.Call (.Name "super" p0) [] [] p1) (ksEnv qual scope L fI (.ref cda) cc))
      standAt p2.atName
      let (f, first) ← holding [ov] (getMethod ov "__init__" pl)
      callWith p4 f first (backTo p4 (starEach [.Constant (.str msg) k4 p3] (ksEnv qual scope L fI (.ref cda) cc))) []))
    (hdp : (p == ("__debug__" : Str)) = false) (hcp : (p == ("__classdict__" : Str)) = false)
    (hq : ∀ h' tk e dx t1, (∀ b o, h.get? b = some o → h'.get? b = some o) → h.objs.size ≤ e → h.get? dx = none → dx ≠ e → h'.get? e = some (excObj C t1 (some dx) .none) → h'.Ns1 dx (fun y => if y = f then some v else none) → R (.ok (.ret (.ref e))) ⟨h', g, d, tk, os⟩) :
    codeAny (model prog w) A (.call (.ref C) ⟨[], [(p, v)]⟩) R ⟨h, g, d, t, os⟩ := by
  obtain ⟨nm, N', qn, bs, bm, hdct, sn, sub, ab, col, dd, k0, k1, k2, k3, k5, hC, hT⟩ := excInit_of X T.q
  have kk : ∀ b o, h.get? b = some o → ((h.push (kdv_tup [])).push (HandSPX.excO C h.objs.size)).get? b = some o := fun b o z => Heap.get?_push_of_some _ (Heap.get?_push_of_some _ z)
  have hget : ((h.push (kdv_tup [])).push (HandSPX.excO C h.objs.size)).get? (h.objs.size + 1) = some (HandSPX.excO C h.objs.size) := by heap_get
  have n1 : h.get? (h.objs.size + 1) = none := Heap.get?_none_of_le (Nat.le_succ _)
  obtain ⟨oF, hoF, hcF⟩ : ∃ o, h.get? fI = some o ∧ o.cls = .type "function" := by
    obtain ⟨o, ho, hc⟩ := Option.map_eq_some_iff.mp T.tI
    exact ⟨o, X _ _ ho, hc⟩
  refine kw_call T.FB hT hC (looks_findIn X T.iC) (fun self => exc_bind hoF hcF self) ?_
  refine init_field (e := h.objs.size + 1) T np hpl hf lk X kk n1 (hl.keeps kk) (hg.keeps kk) hms (hb.keeps kk) hbs hget (by rw [L2.make_depth]; exact hr) (hbind _ _ _) hev hdp hcp fun h' tk dx t1 k' n' d' e' z' => ?_
  refine ⟨rfl, hq h' tk _ dx t1 (fun b o z => k' b o (Nat.ne_of_lt (Nat.lt_succ_of_lt (Heap.lt_size z))) (kk b o z)) (Nat.le_succ _) ?_ d' e' z'⟩
  cases z : h.get? dx with
  | none => rfl
  | some o =>
    rw [kk _ _ z] at n'
    cases n'
end
end Sx
namespace Sg
open PySem PySem.W PyProof.Rows L2 Gx Sx
section
variable {P : Program} {K : Frag} {mg : Str → Option Value} {h : Heap} {B newId initId : String} {bmB : List Value}
/-- a class with one field, from what the written part says -/
theorem row_of {x f qual file : Str} {C fI cc cda : Addr} {scope : Scope} {params : Arguments} {oc kV doc pm ct dV cl ccl : Value} {an od cld cdd : Option Addr} {osl csl ccs : Array (Option Value)} {vs : Array Value} {tf : Tok} {cd : ClassData} {p0 p1 p2 p3 p4 p5 p6 p7 p8 p9 : Pos} {msg : Str} {k4 : Nat}
    (X : K.In h) (G : h.Ns mainGlobals mg) (FB : ExcBaseFacts B newId initId bmB) (KF : KxsFacts B initId) (SF : StoreFacts B bmB "object.__setattr__" "object")
    (aC : nsIn K mainGlobals x = some (some (.ref C))) (kC : keepIn K (.ref C) = true) (iC : findIn K (.ref C) "__init__" = some (some (.ref fI)))
    (lk : K.lookup fI = some ⟨oc, od, .func (ksFn "__init__" qual params [.Expr (.Call (.Attribute (.Call (.Name "super" p0) [] [] p1) "__init__" p2) [.Constant (.str msg) k4 p3] [] p4) p5, .Assign [.Attribute (.Name "self" p6) f p7] (.Name f p8) p9] scope dV kV doc pm an (.ref cda) ct cc), osl⟩)
    (tI : typeIn K (.ref fI) = some (.type "function")) (cell : K.lookup cc = some ⟨cl, cld, .cell (some (.ref C)), csl⟩) (code : K.lookup cda = some ⟨ccl, cdd, .fields vs, ccs⟩) (hvs : vs[2]? = some (.str file tf)) (hfile : ((P.main.file : Str) == file) = true)
    (cdI : codeIn K (.ref cda) qual = true) (cls : clsIn K C = some cd) (self : mroIn K C (.ref C) = some true) (sup : ks_superIn K C C "__init__" = some (some (.builtin initId))) (sB : subIn K (.ref C) (.type B) = some true)
    (q : excInitIn K C bmB newId = true) (ov : excOver K C bmB = true) (hh : hasDictIn K C = true) (sa : findIn K (.ref C) "__setattr__" = some (some (.builtin "object.__setattr__"))) (noOp : nsIn K cStatics "thirdparty.any" = some none) (zS : nsIn K mainGlobals "super" = some none) (hf : takerIn K C f = some none)
    (fN : findIn K (.ref C) f = some none)
    (hg : findIn K (.ref C) "__getattribute__" = some (some (.builtin "BaseException.__getattribute__"))) (hk : findIn K (.ref C) "__getattr__" = some none) (hs : subIn K (.ref C) (.type "BaseException") = some true) (ha : findIn K (.ref C) "__class__" = some (some (.builtin "object.__class__")))
    (hn : specialIn K (.builtin "object.__class__") "__get__" = some (some (.builtin "getset_descriptor.__get__"))) (ht : takesIn K (.builtin "object.__class__") = some true) (hm : mroIn K C (.type "object") = some true)
    (top : (P.main.scope.names.lookup ("super" : Str)).isSome = false) (kind : scope.kind = .function) (co : scope.isCoroutine = false) (gen : scope.isGenerator = false) (nS : scope.names.lookup ("super" : Str) = some .globalImplicit) (nC : scope.names.lookup ("__class__" : Str) = some .free) (nA : scope.names.lookup ("self" : Str) = some .local)
    (noCell : ∀ x ∈ scope.names, x.2 ≠ .cell) (head : ((params.posonlyargs ++ params.args).head?.map (·.arg)) = some "self") (np : ¬ ("self" : Str) = f) (hpl : scope.names.lookup f = some .local)
    (hb1 : ∀ (s : Shared) (x y : Value), BindsTo s (ksFn "__init__" qual params [.Expr (.Call (.Attribute (.Call (.Name "super" p0) [] [] p1) "__init__" p2) [.Constant (.str msg) k4 p3] [] p4) p5, .Assign [.Attribute (.Name "self" p6) f p7] (.Name f p8) p9] scope dV kV doc pm an (.ref cda) ct cc) ⟨[x, y], []⟩ [("self", x), (f, y)])
    (hb2 : ∀ (s : Shared) (x y : Value), BindsTo s (ksFn "__init__" qual params [.Expr (.Call (.Attribute (.Call (.Name "super" p0) [] [] p1) "__init__" p2) [.Constant (.str msg) k4 p3] [] p4) p5, .Assign [.Attribute (.Name "self" p6) f p7] (.Name f p8) p9] scope dV kV doc pm an (.ref cda) ct cc) ⟨[x], [(f, y)]⟩ [("self", x), (f, y)])
    (hev : ∀ L, ∃ pl : Sem Bool, PySem.eval (.Call (.Attribute (.Call (.Name "super" p0) [] [] p1) "__init__" p2) [.Constant (.str msg) k4 p3] [] p4) (ksEnv qual scope L fI (.ref cda) cc) = (do
      let ov ← attributeBase (.Call (.Name "super" p0) [] [] p1) "__init__" (ksEnv qual scope L fI (.ref cda) cc) (PySem.eval (.Call (.Name "super" p0) [] [] p1) (ksEnv qual scope L fI (.ref cda) cc))
      standAt p2.atName
      let (f, first) ← holding [ov] (getMethod ov "__init__" pl)
      callWith p4 f first (backTo p4 (starEach [.Constant (.str msg) k4 p3] (ksEnv qual scope L fI (.ref cda) cc))) []))
    (hdp : (f == ("__debug__" : Str)) = false) (hcp : (f == ("__classdict__" : Str)) = false) : Row P K mg x C f := by
  have T : SupC K P C fI cc cda B newId initId bmB qual "self" scope params := ⟨FB, KF, SF, q, ov, hh, sa, iC, tI, ⟨_, _, _, cell⟩, ⟨_, _, _, _, _, _, code, hvs, hfile⟩, cdI, ⟨_, cls⟩, self, sup, sB, noOp, top, kind, co, gen, nS, nC, nA, noCell, head⟩
  have hms := mg_none_of X G zS
  exact ⟨mg_of X G aC, kC, fun w A h g d t os v mb R hr X hl hg hb hbs hq => make_field T np hpl hf lk X hl hg hms hb hbs hr hb1 hev hdp hcp hq,
    fun w A h g d t os v mb R hr X hl hg hb hbs hq => make_kw T np hpl hf lk X hl hg hms hb hbs hr hb2 hev hdp hcp hq, ⟨⟨hg, hk, hs, hh⟩, fN⟩, ⟨hg, hk, hs, hh, ha, hn, ht, hm⟩⟩
/-- a class without a field -/
theorem rowN_of {x qual file : Str} {C fI cc cda : Addr} {scope : Scope} {params : Arguments} {oc kV doc pm ct dV cl ccl : Value} {an od cld cdd : Option Addr} {osl csl ccs : Array (Option Value)} {vs : Array Value} {tf : Tok} {cd : ClassData} {p0 p1 p2 p3 p4 p5 : Pos} {msg : Str} {k4 : Nat}
    (X : K.In h) (G : h.Ns mainGlobals mg) (FB : ExcBaseFacts B newId initId bmB) (KF : KxsFacts B initId) (SF : StoreFacts B bmB "object.__setattr__" "object")
    (aC : nsIn K mainGlobals x = some (some (.ref C))) (kC : keepIn K (.ref C) = true) (iC : findIn K (.ref C) "__init__" = some (some (.ref fI)))
    (lk : K.lookup fI = some ⟨oc, od, .func (ksFn "__init__" qual params [.Expr (.Call (.Attribute (.Call (.Name "super" p0) [] [] p1) "__init__" p2) [.Constant (.str msg) k4 p3] [] p4) p5] scope dV kV doc pm an (.ref cda) ct cc), osl⟩)
    (tI : typeIn K (.ref fI) = some (.type "function")) (cell : K.lookup cc = some ⟨cl, cld, .cell (some (.ref C)), csl⟩) (code : K.lookup cda = some ⟨ccl, cdd, .fields vs, ccs⟩) (hvs : vs[2]? = some (.str file tf)) (hfile : ((P.main.file : Str) == file) = true)
    (cdI : codeIn K (.ref cda) qual = true) (cls : clsIn K C = some cd) (self : mroIn K C (.ref C) = some true) (sup : ks_superIn K C C "__init__" = some (some (.builtin initId))) (sB : subIn K (.ref C) (.type B) = some true)
    (q : excInitIn K C bmB newId = true) (ov : excOver K C bmB = true) (hh : hasDictIn K C = true) (sa : findIn K (.ref C) "__setattr__" = some (some (.builtin "object.__setattr__"))) (noOp : nsIn K cStatics "thirdparty.any" = some none) (zS : nsIn K mainGlobals "super" = some none)
    (hg : findIn K (.ref C) "__getattribute__" = some (some (.builtin "BaseException.__getattribute__"))) (hk : findIn K (.ref C) "__getattr__" = some none) (hs : subIn K (.ref C) (.type "BaseException") = some true) (ha : findIn K (.ref C) "__class__" = some (some (.builtin "object.__class__")))
    (hn : specialIn K (.builtin "object.__class__") "__get__" = some (some (.builtin "getset_descriptor.__get__"))) (ht : takesIn K (.builtin "object.__class__") = some true) (hm : mroIn K C (.type "object") = some true)
    (top : (P.main.scope.names.lookup ("super" : Str)).isSome = false) (kind : scope.kind = .function) (co : scope.isCoroutine = false) (gen : scope.isGenerator = false) (nS : scope.names.lookup ("super" : Str) = some .globalImplicit) (nC : scope.names.lookup ("__class__" : Str) = some .free) (nA : scope.names.lookup ("self" : Str) = some .local)
    (noCell : ∀ x ∈ scope.names, x.2 ≠ .cell) (head : ((params.posonlyargs ++ params.args).head?.map (·.arg)) = some "self")
    (hb1 : ∀ (s : Shared) (x : Value), BindsTo s (ksFn "__init__" qual params [.Expr (.Call (.Attribute (.Call (.Name "super" p0) [] [] p1) "__init__" p2) [.Constant (.str msg) k4 p3] [] p4) p5] scope dV kV doc pm an (.ref cda) ct cc) ⟨[x], []⟩ [("self", x)])
    (hev : ∀ L, ∃ pl : Sem Bool, PySem.eval (.Call (.Attribute (.Call (.Name "super" p0) [] [] p1) "__init__" p2) [.Constant (.str msg) k4 p3] [] p4) (ksEnv qual scope L fI (.ref cda) cc) = (do
      let ov ← attributeBase (.Call (.Name "super" p0) [] [] p1) "__init__" (ksEnv qual scope L fI (.ref cda) cc) (PySem.eval (.Call (.Name "super" p0) [] [] p1) (ksEnv qual scope L fI (.ref cda) cc))
      standAt p2.atName
      let (f, first) ← holding [ov] (getMethod ov "__init__" pl)
      callWith p4 f first (backTo p4 (starEach [.Constant (.str msg) k4 p3] (ksEnv qual scope L fI (.ref cda) cc))) [])) : RowN P K mg x C := by
  have T : SupC K P C fI cc cda B newId initId bmB qual "self" scope params := ⟨FB, KF, SF, q, ov, hh, sa, iC, tI, ⟨_, _, _, cell⟩, ⟨_, _, _, _, _, _, code, hvs, hfile⟩, cdI, ⟨_, cls⟩, self, sup, sB, noOp, top, kind, co, gen, nS, nC, nA, noCell, head⟩
  have hms := mg_none_of X G zS
  exact ⟨mg_of X G aC, kC, fun w A h g d t os mb R hr X hl hg hb hbs hq => make_none T lk X hl hg hms hb hbs hr hb1 hev hq, ⟨hg, hk, hs, hh, ha, hn, ht, hm⟩⟩
end
end Sg

namespace Sg
open PySem PySem.Spec PyProof.Rows L2 Gx Sx RZ StX LamX LamY
/-- a def's code has a table of its own, at cT, and what it leads to is not written -/
def tabOk (K : PySem.W.Frag) (x : Str) (cT : Addr) : Bool := match PySem.W.tabIn K x with
  | some (a, b) => decide (a = cT) && (K.lookup b).isNone
  | none => false
theorem tabOk.out {K : PySem.W.Frag} {x : Str} {cT : Addr} (h : tabOk K x cT = true) : ∃ PT, PySem.W.tabIn K x = some (cT, PT) ∧ K.lookup PT = none := by
  unfold tabOk at h
  cases e : PySem.W.tabIn K x with
  | none => rw [e] at h; cases h
  | some p =>
    obtain ⟨a, b⟩ := p
    rw [e] at h
    simp only [Bool.and_eq_true, decide_eq_true_eq, Option.isNone_iff_eq_none] at h
    obtain ⟨rfl, h2⟩ := h
    exact ⟨b, rfl, h2⟩
theorem two_get {α β : Type} {f : α → α → β} {g : Nat → Nat → β} {l : List α} {n : Nat} (h : (l.map fun a => l.map fun b => f a b) = (List.range n).map fun i => (List.range n).map fun j => g i j) {i j : Nat} {a b : α} (ha : l[i]? = some a) (hb : l[j]? = some b) : f a b = g i j := by
  have hl : l.length = n := by
    have := congrArg List.length h
    rw [List.length_map, List.length_map, List.length_range] at this
    exact this
  have hi := (List.getElem?_eq_some_iff.mp ha).1
  have hj := (List.getElem?_eq_some_iff.mp hb).1
  have e := congrArg (fun l => l[i]?) h
  simp only [List.getElem?_map, ha, Option.map_some] at e
  rw [List.getElem?_range (by omega)] at e
  have e2 := congrArg (fun l => l[j]?) (Option.some.inj e)
  simp only [List.getElem?_map, hb, Option.map_some] at e2
  rw [List.getElem?_range (by omega)] at e2
  exact Option.some.inj e2
theorem one_get {α β : Type} {f : α → β} {g : Nat → β} {l : List α} {n : Nat} (h : (l.map f) = (List.range n).map g) {i : Nat} {a : α} (ha : l[i]? = some a) : f a = g i := by
  have hl : l.length = n := by
    have := congrArg List.length h
    rw [List.length_map, List.length_map, List.length_range] at this
    exact this
  have hi := (List.getElem?_eq_some_iff.mp ha).1
  have e := congrArg (fun l => l[i]?) h
  simp only [List.getElem?_map, ha, Option.map_some] at e
  rw [List.getElem?_range (by omega)] at e
  exact Option.some.inj e
theorem all_mk {P : Program} {w : World} {K : PySem.W.Frag} {h : Heap} {mg : Str → Option Value} {fa C c0 c1 c2 c3 c4 c5 c6 c7 cR cT : Addr} {tk : Tok} (X : K.In h) (G : h.Ns mainGlobals mg) (hfa : mg "law" = some (.ref fa))
    {odW anW : Option Addr} {slW : Array (Option Value)} {ocW kVW dcW pmW cdW ctW : Value} {fW : Addr} 
    {odS anS : Option Addr} {slS : Array (Option Value)} {ocS kVS dcS pmS cdS ctS : Value} {fS : Addr} 
    {odK anK : Option Addr} {slK : Array (Option Value)} {ocK kVK dcK pmK cdK ctK : Value} {fK : Addr} 
    {odD anD : Option Addr} {slD : Array (Option Value)} {ocD kVD dcD pmD cdD ctD : Value} {fD : Addr} 
    {odX anX : Option Addr} {slX : Array (Option Value)} {ocX kVX dcX pmX cdX ctX : Value} {fX : Addr} 
    {odF anF : Option Addr} {slF : Array (Option Value)} {ocF kVF dcF pmF cdF ctF : Value} {fF : Addr} 
    {odR anR : Option Addr} {slR : Array (Option Value)} {ocR kVR dcR pmR cdR ctR : Value} {fR : Addr} 
    {odB anB : Option Addr} {slB : Array (Option Value)} {ocB kVB dcB pmB cdB ctB : Value} {fB : Addr} 
    {odLk anLk : Option Addr} {slLk : Array (Option Value)} {ocLk kVLk dcLk pmLk cdLk ctLk : Value} {fLk : Addr} 
    {odEn anEn : Option Addr} {slEn : Array (Option Value)} {ocEn kVEn dcEn pmEn cdEn ctEn : Value} {fEn : Addr} 
    {odOr anOr : Option Addr} {slOr : Array (Option Value)} {ocOr kVOr dcOr pmOr cdOr ctOr : Value} {fOr : Addr} 
    {odSt anSt : Option Addr} {slSt : Array (Option Value)} {ocSt kVSt dcSt pmSt cdSt ctSt : Value} {fSt : Addr} 
    {odLw anLw : Option Addr} {slLw : Array (Option Value)} {ocLw kVLw dcLw pmLw cdLw ctLw : Value} {fLw : Addr} 
    {odMa anMa : Option Addr} {slMa : Array (Option Value)} {ocMa kVMa dcMa pmMa cdMa ctMa : Value} {fMa : Addr} 
    {odIs anIs : Option Addr} {slIs : Array (Option Value)} {ocIs kVIs dcIs pmIs cdIs ctIs : Value} {fIs : Addr} 
    {odH anH : Option Addr} {slH : Array (Option Value)} {ocH kVH dcH pmH cdH ctH : Value} {fH : Addr} 
    {odDu anDu : Option Addr} {slDu : Array (Option Value)} {ocDu kVDu dcDu pmDu cdDu ctDu : Value} {fDu : Addr} 
    {odBe anBe : Option Addr} {slBe : Array (Option Value)} {ocBe kVBe dcBe pmBe cdBe ctBe : Value} {fBe : Addr} 
    {odI anI : Option Addr} {slI : Array (Option Value)} {ocI kVI dcI pmI cdI ctI : Value} {fI : Addr} 
    {odN anN : Option Addr} {slN : Array (Option Value)} {ocN kVN dcN pmN cdN ctN : Value} {fN : Addr} 
    {odL anL : Option Addr} {slL : Array (Option Value)} {ocL kVL dcL pmL ctL : Value} {fL : Addr}
    (aW : PySem.W.nsIn K mainGlobals "is_whole" = some (some (.ref fW))) (lW : K.lookup fW = some ⟨ocW, odW, .func (PySem.W.fnOf "is_whole" "is_whole" (defArgs sWhole) (defBody sWhole) (defScope sWhole) .none kVW dcW pmW anW cdW ctW), slW⟩) (dW : PySem.W.codeIn K cdW "is_whole" = true) (kW : PySem.W.keepIn K (.ref fW) = true)
    (aS : PySem.W.nsIn K mainGlobals "is_set" = some (some (.ref fS))) (lS : K.lookup fS = some ⟨ocS, odS, .func (PySem.W.fnOf "is_set" "is_set" (defArgs sSet) (defBody sSet) (defScope sSet) .none kVS dcS pmS anS cdS ctS), slS⟩) (dS : PySem.W.codeIn K cdS "is_set" = true) (kS : PySem.W.keepIn K (.ref fS) = true)
    (aK : PySem.W.nsIn K mainGlobals "check_stars" = some (some (.ref fK))) (lK : K.lookup fK = some ⟨ocK, odK, .func (PySem.W.fnOf "check_stars" "check_stars" (defArgs sCheck) (defBody sCheck) (defScope sCheck) .none kVK dcK pmK anK cdK ctK), slK⟩) (dK : PySem.W.codeIn K cdK "check_stars" = true) (kK : PySem.W.keepIn K (.ref fK) = true)
    (aD : PySem.W.nsIn K mainGlobals "sides_of" = some (some (.ref fD))) (lD : K.lookup fD = some ⟨ocD, odD, .func (PySem.W.fnOf "sides_of" "sides_of" (defArgs sSides) (defBody sSides) (defScope sSides) .none kVD dcD pmD anD cdD ctD), slD⟩) (dD : PySem.W.codeIn K cdD "sides_of" = true) (kD : PySem.W.keepIn K (.ref fD) = true)
    (aX : PySem.W.nsIn K mainGlobals "_law_mixed" = some (some (.ref fX))) (lX : K.lookup fX = some ⟨ocX, odX, .func (PySem.W.fnOf "_law_mixed" "_law_mixed" (defArgs sMixed) (defBody sMixed) (defScope sMixed) .none kVX dcX pmX anX cdX ctX), slX⟩) (dX : PySem.W.codeIn K cdX "_law_mixed" = true) (kX : PySem.W.keepIn K (.ref fX) = true)
    (aF : PySem.W.nsIn K mainGlobals "_law_folded" = some (some (.ref fF))) (lF : K.lookup fF = some ⟨ocF, odF, .func (PySem.W.fnOf "_law_folded" "_law_folded" (defArgs sFolded) (defBody sFolded) (defScope sFolded) .none kVF dcF pmF anF cdF ctF), slF⟩) (dF : PySem.W.codeIn K cdF "_law_folded" = true) (kF : PySem.W.keepIn K (.ref fF) = true)
    (aR : PySem.W.nsIn K mainGlobals "_law_draw" = some (some (.ref fR))) (lR : K.lookup fR = some ⟨ocR, odR, .func (PySem.W.fnOf "_law_draw" "_law_draw" (defArgs sDraw) (defBody sDraw) (defScope sDraw) .none kVR dcR pmR anR cdR ctR), slR⟩) (dR : PySem.W.codeIn K cdR "_law_draw" = true) (kR : PySem.W.keepIn K (.ref fR) = true)
    (aB : PySem.W.nsIn K mainGlobals "_law_begun" = some (some (.ref fB))) (lB : K.lookup fB = some ⟨ocB, odB, .func (PySem.W.fnOf "_law_begun" "_law_begun" (defArgs sBegun) (defBody sBegun) (defScope sBegun) .none kVB dcB pmB anB cdB ctB), slB⟩) (dB : PySem.W.codeIn K cdB "_law_begun" = true) (kB : PySem.W.keepIn K (.ref fB) = true)
    (aLk : PySem.W.nsIn K mainGlobals "_law_like" = some (some (.ref fLk))) (lLk : K.lookup fLk = some ⟨ocLk, odLk, .func (PySem.W.fnOf "_law_like" "_law_like" (defArgs sLike) (defBody sLike) (defScope sLike) .none kVLk dcLk pmLk anLk cdLk ctLk), slLk⟩) (dLk : PySem.W.codeIn K cdLk "_law_like" = true) (kLk : PySem.W.keepIn K (.ref fLk) = true)
    (aEn : PySem.W.nsIn K mainGlobals "_law_ends" = some (some (.ref fEn))) (lEn : K.lookup fEn = some ⟨ocEn, odEn, .func (PySem.W.fnOf "_law_ends" "_law_ends" (defArgs sEnds) (defBody sEnds) (defScope sEnds) .none kVEn dcEn pmEn anEn cdEn ctEn), slEn⟩) (dEn : PySem.W.codeIn K cdEn "_law_ends" = true) (kEn : PySem.W.keepIn K (.ref fEn) = true)
    (aOr : PySem.W.nsIn K mainGlobals "_law_order" = some (some (.ref fOr))) (lOr : K.lookup fOr = some ⟨ocOr, odOr, .func (PySem.W.fnOf "_law_order" "_law_order" (defArgs sOrder) (defBody sOrder) (defScope sOrder) .none kVOr dcOr pmOr anOr cdOr ctOr), slOr⟩) (dOr : PySem.W.codeIn K cdOr "_law_order" = true) (kOr : PySem.W.keepIn K (.ref fOr) = true)
    (aSt : PySem.W.nsIn K mainGlobals "_law_stars" = some (some (.ref fSt))) (lSt : K.lookup fSt = some ⟨ocSt, odSt, .func (PySem.W.fnOf "_law_stars" "_law_stars" (defArgs sStars) (defBody sStars) (defScope sStars) .none kVSt dcSt pmSt anSt cdSt ctSt), slSt⟩) (dSt : PySem.W.codeIn K cdSt "_law_stars" = true) (kSt : PySem.W.keepIn K (.ref fSt) = true)
    (aLw : PySem.W.nsIn K mainGlobals "_law_web" = some (some (.ref fLw))) (lLw : K.lookup fLw = some ⟨ocLw, odLw, .func (PySem.W.fnOf "_law_web" "_law_web" (defArgs sLWeb) (defBody sLWeb) (defScope sLWeb) .none kVLw dcLw pmLw anLw cdLw ctLw), slLw⟩) (dLw : PySem.W.codeIn K cdLw "_law_web" = true) (kLw : PySem.W.keepIn K (.ref fLw) = true)
    (aMa : PySem.W.nsIn K mainGlobals "_law_many" = some (some (.ref fMa))) (lMa : K.lookup fMa = some ⟨ocMa, odMa, .func (PySem.W.fnOf "_law_many" "_law_many" (defArgs sMany) (defBody sMany) (defScope sMany) .none kVMa dcMa pmMa anMa cdMa ctMa), slMa⟩) (dMa : PySem.W.codeIn K cdMa "_law_many" = true) (kMa : PySem.W.keepIn K (.ref fMa) = true)
    (aIs : PySem.W.nsIn K mainGlobals "_law_is_set" = some (some (.ref fIs))) (lIs : K.lookup fIs = some ⟨ocIs, odIs, .func (PySem.W.fnOf "_law_is_set" "_law_is_set" (defArgs sIsSet) (defBody sIsSet) (defScope sIsSet) .none kVIs dcIs pmIs anIs cdIs ctIs), slIs⟩) (dIs : PySem.W.codeIn K cdIs "_law_is_set" = true) (kIs : PySem.W.keepIn K (.ref fIs) = true)
    (aH : PySem.W.nsIn K mainGlobals "_law_heard" = some (some (.ref fH))) (lH : K.lookup fH = some ⟨ocH, odH, .func (PySem.W.fnOf "_law_heard" "_law_heard" (defArgs sHeard) (defBody sHeard) (defScope sHeard) .none kVH dcH pmH anH cdH ctH), slH⟩) (dH : PySem.W.codeIn K cdH "_law_heard" = true) (kH : PySem.W.keepIn K (.ref fH) = true)
    (aDu : PySem.W.nsIn K mainGlobals "_law_due" = some (some (.ref fDu))) (lDu : K.lookup fDu = some ⟨ocDu, odDu, .func (PySem.W.fnOf "_law_due" "_law_due" (defArgs sDue) (defBody sDue) (defScope sDue) .none kVDu dcDu pmDu anDu cdDu ctDu), slDu⟩) (dDu : PySem.W.codeIn K cdDu "_law_due" = true) (kDu : PySem.W.keepIn K (.ref fDu) = true)
    (aBe : PySem.W.nsIn K mainGlobals "_law_bent" = some (some (.ref fBe))) (lBe : K.lookup fBe = some ⟨ocBe, odBe, .func (PySem.W.fnOf "_law_bent" "_law_bent" (defArgs sBent) (defBody sBent) (defScope sBent) .none kVBe dcBe pmBe anBe cdBe ctBe), slBe⟩) (dBe : PySem.W.codeIn K cdBe "_law_bent" = true) (kBe : PySem.W.keepIn K (.ref fBe) = true)
    (aL : PySem.W.nsIn K mainGlobals "law" = some (some (.ref fL))) (lL : K.lookup fL = some ⟨ocL, odL, .func (PySem.W.fnOf "law" "law" (defArgs sLaw) (defBody sLaw) (defScope sLaw) .none kVL dcL pmL anL (.ref cT) ctL), slL⟩) (dL : PySem.W.codeIn K (.ref cT) "law" = true) (tab : tabOk K "law" cT = true)
    (aC : PySem.W.nsIn K mainGlobals "Web" = some (some (.ref C))) (kC : PySem.W.keepIn K (.ref C) = true) (pg : PySem.W.plainGet K C Str.empty = true) (hd : PySem.W.hasDictIn K C = true) (po : PySem.W.plainOver K C = true) (sa : PySem.W.findIn K (.ref C) "__setattr__" = some (some (.builtin "object.__setattr__"))) (mk : PySem.W.makesIn K C = true)
    (nSt : PySem.W.findIn K (.ref C) "stars" = some none) (nSi : PySem.W.findIn K (.ref C) "sides" = some none)
    (aI : PySem.W.findIn K (.ref C) "__init__" = some (some (.ref fI))) (iI : PySem.W.isFn K (.ref fI) = true) (lI : K.lookup fI = some ⟨ocI, odI, .func (PySem.W.fnOf "__init__" "Web.__init__" (defArgs sWInit) (defBody sWInit) (defScope sWInit) .none kVI dcI pmI anI cdI ctI), slI⟩) (dI : PySem.W.codeIn K cdI "Web.__init__" = true) (kI : PySem.W.keepIn K (.ref fI) = true)
    (aN : PySem.W.findIn K (.ref C) "__len__" = some (some (.ref fN))) (iN : PySem.W.isFn K (.ref fN) = true) (lN : K.lookup fN = some ⟨ocN, odN, .func (PySem.W.fnOf "__len__" "Web.__len__" (defArgs sWLen) (defBody sWLen) (defScope sWLen) .none kVN dcN pmN anN cdN ctN), slN⟩) (dN : PySem.W.codeIn K cdN "Web.__len__" = true) (kN : PySem.W.keepIn K (.ref fN) = true)
    (aM : PySem.W.nsIn K mainGlobals "MOST_TIES" = some (some (.int 12 tk)))
    (z_isinstance : PySem.W.nsIn K mainGlobals "isinstance" = some none)
    (z_int : PySem.W.nsIn K mainGlobals "int" = some none)
    (z_bool : PySem.W.nsIn K mainGlobals "bool" = some none)
    (z_tuple : PySem.W.nsIn K mainGlobals "tuple" = some none)
    (z_all : PySem.W.nsIn K mainGlobals "all" = some none)
    (z_zip : PySem.W.nsIn K mainGlobals "zip" = some none)
    (z_list : PySem.W.nsIn K mainGlobals "list" = some none)
    (z_enumerate : PySem.W.nsIn K mainGlobals "enumerate" = some none)
    (z_len : PySem.W.nsIn K mainGlobals "len" = some none)
    (z_max : PySem.W.nsIn K mainGlobals "max" = some none)
    (z_range : PySem.W.nsIn K mainGlobals "range" = some none)
    (z_repr : PySem.W.nsIn K mainGlobals "repr" = some none)
    (z_sorted : PySem.W.nsIn K mainGlobals "sorted" = some none)
    (z_set : PySem.W.nsIn K mainGlobals "set" = some none)
    (z_ValueError : PySem.W.nsIn K mainGlobals "ValueError" = some none)
    (r0 : Row P K mg "BadStars" c0 "place")
    (r1 : Row P K mg "BadEnds" c1 "place")
    (r2 : Row P K mg "BadSet" c2 "value")
    (r3 : Row P K mg "BadDeed" c3 "place")
    (r4 : Row P K mg "BadNumber" c4 "value")
    (r5 : RowN P K mg "OtherTies" c5)
    (r6 : Row P K mg "BadName" c6 "value")
    (r7 : Row P K mg "TooGreat" c7 "most")
    (aRE : PySem.W.nsIn K mainGlobals "RoundError" = some (some (.ref cR))) (bR0 : PySem.W.subIn K (.ref c0) (.type "BaseException") = some true) (tR0 : PySem.W.typeIn K (.ref c0) = some (.type "type"))
    (tK : ([c0, c1, c2, c3, c4, c5, c6, c7].map fun a => [c0, c1, c2, c3, c4, c5, c6, c7].map fun b => PySem.W.kitOne K (.ref a) (.ref b)) = (List.range 8).map fun i => (List.range 8).map fun j => some (decide (i = j)))
    (tR : ([c0, c1, c2, c3, c4, c5, c6, c7].map fun a => PySem.W.kitOne K (.ref a) (.ref cR)) = (List.range 8).map fun i => some (decide (i < 7)))
    (tV : ([c0, c1, c2, c3, c4, c5, c6, c7].map fun a => PySem.W.kitOne K (.ref a) (.type "ValueError")) = (List.range 8).map fun i => some (decide (i < 7)))
    (tO : ([c0, c1, c2, c3, c4, c5, c6, c7].map fun a => PySem.W.kitOne K (.ref a) (.type "OverflowError")) = (List.range 8).map fun i => some (decide (i = 7)))
    (tE : ([c0, c1, c2, c3, c4, c5, c6, c7].map fun a => PySem.W.exmAny K (.ref a) [.ref cR, .ref c7]) = (List.range 8).map fun _ => some true) :
    ∃ (fd : FuncData) (c T : Addr), PySem.W.tabIn K "law" = some (c, T) ∧ K.lookup T = none ∧ (∀ (s : Shared) (v : Value), BindsTo s fd ⟨[v], []⟩ [("script", v)]) ∧ ∀ base : Heap, K.In base → base.Ns mainGlobals mg → (∃ m, base.Ns sysModules m) → LamX.TabB base mg c T → FnG P w K mg base CX0 8 fa fd ["script"] (spLaw T K) := by
  obtain ⟨PT, tab, nP⟩ := tabOk.out tab
  have e := hfa.symm.trans (PySem.W.mg_of X G aL)
  cases e
  have FW := fun_mk (st := sWhole) lW dW kW
  have FS := fun_mk (st := sSet) lS dS kS
  have FK := fun_mk (st := sCheck) lK dK kK
  have FD := fun_mk (st := sSides) lD dD kD
  have FX := fun_mk (st := sMixed) lX dX kX
  have FF := fun_mk (st := sFolded) lF dF kF
  have FR := fun_mk (st := sDraw) lR dR kR
  have FB := fun_mk (st := sBegun) lB dB kB
  have FLk := fun_mk (st := sLike) lLk dLk kLk
  have FEn := fun_mk (st := sEnds) lEn dEn kEn
  have FOr := fun_mk (st := sOrder) lOr dOr kOr
  have FSt := fun_mk (st := sStars) lSt dSt kSt
  have FLw := fun_mk (st := sLWeb) lLw dLw kLw
  have FMa := fun_mk (st := sMany) lMa dMa kMa
  have FIs := fun_mk (st := sIsSet) lIs dIs kIs
  have FH := fun_mk (st := sHeard) lH dH kH
  have FDu := fun_mk (st := sDue) lDu dDu kDu
  have FBe := fun_mk (st := sBent) lBe dBe kBe
  have FI := fun_mk (st := sWInit) lI dI kI
  have FN := fun_mk (st := sWLen) lN dN kN
  have bW := FW.binds (ps := ["value", "many"]) fun _ _ _ _ _ _ us hl => match us, hl with | [_, _], _ => rfl
  have bS := FS.binds (ps := ["value", "many"]) fun _ _ _ _ _ _ us hl => match us, hl with | [_, _], _ => rfl
  have bK := FK.binds (ps := ["stars"]) fun _ _ _ _ _ _ us hl => match us, hl with | [_], _ => rfl
  have bD := FD.binds (ps := ["stars"]) fun _ _ _ _ _ _ us hl => match us, hl with | [_], _ => rfl
  have bX := FX.binds (ps := ["cell", "n"]) fun _ _ _ _ _ _ us hl => match us, hl with | [_, _], _ => rfl
  have bF := FF.binds (ps := ["script"]) fun _ _ _ _ _ _ us hl => match us, hl with | [_], _ => rfl
  have bR := FR.binds (ps := ["m", "limit"]) fun _ _ _ _ _ _ us hl => match us, hl with | [_, _], _ => rfl
  have bB := FB.binds (ps := ["script"]) fun _ _ _ _ _ _ us hl => match us, hl with | [_], _ => rfl
  have bLk := FLk.binds (ps := ["told", "due"]) fun _ _ _ _ _ _ us hl => match us, hl with | [_, _], _ => rfl
  have bEn := FEn.binds (ps := ["m", "most"]) fun _ _ _ _ _ _ us hl => match us, hl with | [_, _], _ => rfl
  have bOr := FOr.binds (ps := ["m", "many"]) fun _ _ _ _ _ _ us hl => match us, hl with | [_, _], _ => rfl
  have bSt := FSt.binds (ps := ["ends"]) fun _ _ _ _ _ _ us hl => match us, hl with | [_], _ => rfl
  have bLw := FLw.binds (ps := ["m", "most"]) fun _ _ _ _ _ _ us hl => match us, hl with | [_, _], _ => rfl
  have bMa := FMa.binds (ps := ["stars"]) fun _ _ _ _ _ _ us hl => match us, hl with | [_], _ => rfl
  have bIs := FIs.binds (ps := ["value", "many"]) fun _ _ _ _ _ _ us hl => match us, hl with | [_, _], _ => rfl
  have bH := FH.binds (ps := ["call"]) fun _ _ _ _ _ _ us hl => match us, hl with | [_], _ => rfl
  have bDu := FDu.binds (ps := ["stars"]) fun _ _ _ _ _ _ us hl => match us, hl with | [_], _ => rfl
  have bBe := FBe.binds (ps := ["m", "stars"]) fun _ _ _ _ _ _ us hl => match us, hl with | [_, _], _ => rfl
  have bI := FI.binds (ps := ["self", "stars"]) fun _ _ _ _ _ _ us hl => match us, hl with | [_, _], _ => rfl
  have bN := FN.binds (ps := ["self"]) fun _ _ _ _ _ _ us hl => match us, hl with | [_], _ => rfl
  have m_isinstance := PySem.W.mg_none_of X G z_isinstance
  have m_int := PySem.W.mg_none_of X G z_int
  have m_bool := PySem.W.mg_none_of X G z_bool
  have m_tuple := PySem.W.mg_none_of X G z_tuple
  have m_all := PySem.W.mg_none_of X G z_all
  have m_zip := PySem.W.mg_none_of X G z_zip
  have m_list := PySem.W.mg_none_of X G z_list
  have m_enumerate := PySem.W.mg_none_of X G z_enumerate
  have m_len := PySem.W.mg_none_of X G z_len
  have m_max := PySem.W.mg_none_of X G z_max
  have m_range := PySem.W.mg_none_of X G z_range
  have m_repr := PySem.W.mg_none_of X G z_repr
  have m_sorted := PySem.W.mg_none_of X G z_sorted
  have m_set := PySem.W.mg_none_of X G z_set
  have m_ValueError := PySem.W.mg_none_of X G z_ValueError
  have gW := PySem.W.mg_of X G aW
  have gS := PySem.W.mg_of X G aS
  have gK := PySem.W.mg_of X G aK
  have gD := PySem.W.mg_of X G aD
  have gX := PySem.W.mg_of X G aX
  have gF := PySem.W.mg_of X G aF
  have gR := PySem.W.mg_of X G aR
  have gB := PySem.W.mg_of X G aB
  have gLk := PySem.W.mg_of X G aLk
  have gEn := PySem.W.mg_of X G aEn
  have gOr := PySem.W.mg_of X G aOr
  have gSt := PySem.W.mg_of X G aSt
  have gLw := PySem.W.mg_of X G aLw
  have gMa := PySem.W.mg_of X G aMa
  have gIs := PySem.W.mg_of X G aIs
  have gH := PySem.W.mg_of X G aH
  have gDu := PySem.W.mg_of X G aDu
  have gBe := PySem.W.mg_of X G aBe
  have gM := PySem.W.mg_of X G aM
  have T : WebC K mg C := ⟨⟨pg, hd, po, sa⟩, nSt, nSi, PySem.W.mg_of X G aC⟩
  have TE : Errs P K mg c0 c1 c2 c3 c4 c5 c6 c7 cR := ⟨r0, r1, r2, r3, r4, r5, r6, r7, PySem.W.mg_of X G aRE, fun i j a b ha hb => two_get tK ha hb, fun i a ha => one_get tR ha, fun i a ha => one_get tV ha, fun i a ha => one_get tO ha⟩
  refine ⟨PySem.W.fnOf "law" "law" (defArgs sLaw) (defBody sLaw) (defScope sLaw) .none kVL dcL pmL anL (.ref cT) ctL, cT, PT, tab, nP, fun s v => .of_eq rfl, fun base _ _ tS TB => ?_⟩
  have GW : FnOk P w K mg base CX0 1 fW _ ["value", "many"] spWhole := ok_whole FW m_isinstance m_int m_bool
  have GWX : FnOk P w K mg base CX0 1 fW _ ["value", "many"] spWholeX := ok_wholeX FW m_isinstance m_int m_bool
  have GS : FnOk P w K mg base CX0 2 fS _ ["value", "many"] (spSet K) := ok_set FS GW gW kW bW m_isinstance m_tuple m_all m_zip
  have GSX : FnOk P w K mg base CX0 2 fS _ ["value", "many"] (spSetX K) := ok_setX FS GWX gW kW bW m_isinstance m_tuple m_all m_zip
  have GK : FnOk P w K mg base CX0 3 fK _ ["stars"] (spCheck K) := ok_check FK GS gS kS bS gM m_isinstance m_list m_tuple m_enumerate m_len
  have GKX : FnOk P w K mg base (L2.CX P w) 3 fK _ ["stars"] (spCheckX K c0) := ok_checkX FK GSX gS kS bS r0 bR0 tR0 gM m_isinstance m_list m_tuple m_enumerate m_len
  have GD : FnOk P w K mg base CX0 1 fD _ ["stars"] (spSides K) := ok_sides FD m_max m_range m_enumerate m_tuple
  have GI : FnOk P w K mg base CX0 4 fI _ ["self", "stars"] (spWInit K C) := ok_winit FI T GK gK kK bK GD gD kD bD m_tuple
  have GIX : FnOk P w K mg base (L2.CX P w) 4 fI _ ["self", "stars"] (spWInitX K C c0) := ok_winitX FI T GKX gK kK bK GD gD kD bD m_tuple
  have GN : FnOk P w K mg base CX0 1 fN _ ["self"] (spWLen K C) := ok_wlen FN T m_len
  have GX : FnOk P w K mg base CX0 1 fX _ ["cell", "n"] spMixed := ok_mixed FX m_int
  have GF : FnOk P w K mg base CX0 1 fF _ ["script"] (spFolded K) := ok_folded FF m_int m_range m_enumerate
  have GB : FnOk P w K mg base CX0 2 fB _ ["script"] (spBegun K) := ok_begun FB GF gF kF bF
  have GR : FnOk P w K mg base CX0 2 fR _ ["m", "limit"] spDraw := ok_draw FR GX gX kX bX m_int m_len
  have GLk : FnG P w K mg base CX0 1 fLk _ ["told", "due"] (spLike K) := ok_like FLk tS m_repr
  have GOr : FnOk P w K mg base CX0 3 fOr _ ["m", "many"] spOrder := ok_order FOr GR gR kR bR m_list m_range m_len
  have GEn : FnOk P w K mg base CX0 4 fEn _ ["m", "most"] spEnds := ok_ends FEn GR gR kR bR GOr gOr kOr bOr m_int m_range m_len
  have GSt : FnOk P w K mg base CX0 1 fSt _ ["ends"] (spStars K) := ok_stars FSt m_tuple m_range m_len m_sorted
  have GLw : FnOk P w K mg base CX0 5 fLw _ ["m", "most"] spLWeb := ok_lweb FLw GEn gEn kEn bEn GSt gSt kSt bSt
  have GMa : FnOk P w K mg base CX0 1 fMa _ ["stars"] (spMany K) := ok_many FMa m_max
  have GIs : FnOk P w K mg base CX0 1 fIs _ ["value", "many"] (spSetX K) := ok_isset FIs m_isinstance m_tuple m_int m_bool m_list m_sorted m_set
  have GDu : FnOk P w K mg base CX0 2 fDu _ ["stars"] (spDue K) := ok_due FDu GIs gIs kIs bIs m_enumerate m_range m_len m_list m_sorted
  have GBe : FnOk P w K mg base CX0 3 fBe _ ["m", "stars"] (spBent K) := ok_bent FBe GR gR kR bR m_list m_len
  exact ok_law lL dL TB TE (fun i D h => one_get tE h) lH dH gH kH bH GB gB kB bB GR gR kR bR GLw gLw kLw bLw GMa gMa kMa bMa GLk gLk kLk bLk GBe gBe kBe bBe (due_v GDu) gDu kDu bDu GI GIX bI ⟨mk, aI, iI, kC⟩ T GN aN iN bN gM m_isinstance m_len m_zip m_ValueError m_list m_tuple m_range
end Sg

/-! The end of a law's row whose law makes lambdas (its code's table at T) and says repr. -/
namespace Gx
open PySem PySem.Spec PyProof.Rows L2 LamX
theorem sys_of {h : Heap} (x : h.NoSeer) : ∃ m, h.Ns sysModules m := let ⟨m, z, _⟩ := x.mods; ⟨m, z⟩
/-- what is asked of the abstract heap at the entry -/
structure Entry (H : Hp) (a T : Addr) : Prop where
  tab : H T = some (.tbl #[])
  at_ : ∀ b, H b ≠ none → b = a ∨ b = T
  frz : H a = none ∨ ∃ o u, H a = some (.frz o u)
section
variable {P : Program} {w : World} {K : PySem.W.Frag} {mg mb : Str → Option Value} {CX : CXT} {k : Nat} {fa a c T : Addr} {fd : FuncData} {x : Str} {sp : Sp} {s₁ : Shared} {vs : List Value} {ns : List Int}
theorem law_coreT (KX : K.In s₁.heap) (hns : s₁.heap.Ns mainGlobals mg) (hb : s₁.heap.Ns builtinsNs mb) (hbb : ∀ x : Str, x ≠ "__name__" → mb x = bootBuiltins x) (hlim : s₁.heap.NoLimit) (hg : s₁.gens = #[])
    (hT : s₁.heap.get? T = some (PySem.W.tabObj #[])) (nT : K.lookup T = none) (hC : PySem.W.CodeHd s₁.heap c T)
    (hbm : ∃ (bm : Addr) (ob : Obj), mg "__builtins__" = some (.ref bm) ∧ bm ≠ builtinsNs ∧ s₁.heap.get? bm = some ob ∧ ob.cls = .type "module" ∧ ob.dict = some builtinsNs ∧ ob.data = .plain)
    (ha : s₁.heap.get? a = some { cls := .type "list", data := .seq vs.toArray }) (hr : Room k callerA) (hm : ∃ m, s₁.heap.Ns sysModules m)
    (F : ∀ base : Heap, K.In base → base.Ns mainGlobals mg → (∃ m, base.Ns sysModules m) → TabB base mg c T → FnG P w K mg base CX k fa fd [x] sp) (hbind : ∀ (s : Shared) (u : Value), BindsTo s fd ⟨[u], []⟩ [(x, u)])
    (hCX : ∀ H e s', CX [] H s₁ (fun _ _ _ => False) e s' → False) {H : Hp} (hE : Entry H a T) (hsp : sp [.ref a] H (fun v _ => v = .bl true) fun _ _ _ => False) (hok : HOk P w H s₁.heap) (hK : H a ≠ none → K.lookup a = none) :
    codeAny (model P w) callerA (.call (.ref fa) ⟨[.ref a], []⟩) (fun r s' => r = .ok (.ret (.bool true)) ∧ OldK s₁.heap s'.heap ∧ s'.os = s₁.os ∧ AllBare s'.gens) s₁ := by
  have out : ∀ {b : Addr} {o : Obj}, s₁.heap.get? b = some o → (∀ l n, o.data ≠ .seq l n) → o.data ≠ .fields #[] → H b = none := fun {b o} e n1 n2 => by
    cases q : H b with
    | none => rfl
    | some u =>
      rcases hE.at_ b (by rw [q]; simp) with z | z
      · rw [z, ha] at e
        cases e
        exact (n1 _ _ rfl).elim
      · rw [z, hT] at e
        cases e
        exact (n2 rfl).elim
  have outD : ∀ {b : Addr} {o : Obj} {d : Data}, s₁.heap.get? b = some o → o.data = d → (∀ l n, d ≠ .seq l n) → d ≠ .fields #[] → H b = none := fun e q n1 n2 => out e (by rw [q]; exact n1) (by rw [q]; exact n2)
  have nsB : ∀ {b : Addr} {m : Str → Option Value}, s₁.heap.Ns b m → (hidT s₁.heap H).Ns b m := fun ⟨o, es, ep, z, d, r⟩ => ⟨o, es, ep, hidT_get z (outD z d (fun _ _ z => nomatch z) fun z => nomatch z), d, r⟩
  have kB : K.In (hidT s₁.heap H) := fun b o z => hidT_get (KX b o z) (by
    cases q : H b with
    | none => rfl
    | some u =>
      rcases hE.at_ b (by rw [q]; simp) with y | y
      · rw [y] at q z
        rw [hK (by rw [q]; simp)] at z
        cases z
      · rw [y, nT] at z
        cases z)
  have tB : TabB (hidT s₁.heap H) mg c T := by
    refine ⟨?_, ?_, fun z => ?_⟩
    · obtain ⟨o, us, file, tf, flags, tg, inF, text, tt, e1, e2, e3, e4, r⟩ := hC
      refine ⟨o, us, file, tf, flags, tg, inF, text, tt, hidT_get e1 (outD e1 e3 (fun _ _ z => nomatch z) fun z => ?_), e2, e3, e4, r⟩
      cases z
      simp at e4
    · obtain ⟨bm, ob, b1, b2, b3, b4, b5, b6⟩ := hbm
      refine ⟨bm, ob, b1, b2, fun z => ?_, fun z => ?_, hidT_get b3 (outD b3 b6 (fun _ _ z => nomatch z) fun z => nomatch z), b4, b5, b6⟩
      · obtain ⟨o, es, ep, g1, g2, _⟩ := hns
        rw [z, g1] at b3
        cases b3
        rw [g2] at b6
        cases b6
      · rw [z, hT] at b3
        cases b3
        cases b6
    · obtain ⟨o, es, ep, g1, g2, _⟩ := hns
      rw [z, hT] at g1
      cases g1
      cases g2
  obtain ⟨mc, c1, c2⟩ := hlim
  have e0 : Env0 P w K mg (hidT s₁.heap H) callerA [] s₁ H :=
    ⟨rfl, ⟨kB, nsB hns, ⟨mb, nsB hb, hbb⟩, ⟨mc, nsB c1, c2⟩⟩, fun b o z => of_hidT z, Nat.le_of_eq (hidT_size _ _), trivial, fun b z => absurd (show b ∈ ([] : List Addr) from z) (by simp), hok, .of_eq hg⟩
  refine codeAny_mono ((F _ kB (nsB hns) (let ⟨_, z⟩ := hm; ⟨_, nsB z⟩) tB).run callerA [] s₁ H ⟨[.ref a], []⟩ [.ref a] [.ref a] _ _ rfl hr e0 (hbind s₁ (.ref a)) (.cons rfl .nil) hsp) fun r s' z => ?_
  rcases r with e | fl
  · exact (hCX H e s' z).elim
  · cases fl with
    | ret u =>
      obtain ⟨v, H', os, bare, un, hok', rv, q⟩ := z
      have q : v = .bl true := q
      subst q
      obtain rfl : u = Value.bool true := rv
      obtain ⟨more, tq⟩ := un.tbls T #[] hE.tab
      have tq : s'.heap.get? T = some { cls := .none, data := .fields (#[] ++ more) } := hok' T _ tq
      have same : ∀ b o, b ≠ T → s₁.heap.get? b = some o → s'.heap.get? b = some o := fun b o nb e => by
        cases q : H b with
        | none => exact un.keep b o e q (fun z => absurd (show b ∈ ([] : List Addr) from z) (by simp)) (by simp)
        | some u =>
          rcases hE.at_ b (by rw [q]; simp) with y | y
          · rcases hE.frz with y2 | ⟨o2, u2, y2⟩
            · rw [y, y2] at q
              cases q
            · rw [← y] at y2
              obtain ⟨e1, _⟩ := hok b _ y2
              obtain ⟨e2, _⟩ := hok' b _ (un.frzs b o2 u2 y2)
              rw [e] at e1
              cases e1
              exact e2
          · exact absurd y nb
      refine ⟨rfl, ⟨fun b o e => ?_, fun b o e => ?_⟩, os, bare⟩
      · by_cases y : b = T
        · subst y
          rw [hT] at e
          cases e
          exact .inr (.inl ⟨(hC.tab hT).isCodeTable, rfl, #[], more, rfl, tq⟩)
        · exact .inl (same b o y e)
      · by_cases y : b = T
        · subst y
          exact ⟨_, tq⟩
        · exact ⟨o, same b o y e⟩
    | next => exact z.elim
    | brk => exact z.elim
    | cont => exact z.elim
theorem law_callGT (KX : K.In s₁.heap) (hns : s₁.heap.Ns mainGlobals mg) (hb : s₁.heap.Ns builtinsNs mb) (hbb : ∀ x : Str, x ≠ "__name__" → mb x = bootBuiltins x) (hlim : s₁.heap.NoLimit) (hg : s₁.gens = #[])
    (hT : s₁.heap.get? T = some (PySem.W.tabObj #[])) (nT : K.lookup T = none) (hC : PySem.W.CodeHd s₁.heap c T)
    (hbm : ∃ (bm : Addr) (ob : Obj), mg "__builtins__" = some (.ref bm) ∧ bm ≠ builtinsNs ∧ s₁.heap.get? bm = some ob ∧ ob.cls = .type "module" ∧ ob.dict = some builtinsNs ∧ ob.data = .plain)
    (ha : s₁.heap.get? a = some { cls := .type "list", data := .seq vs.toArray }) (hi : IntsAre vs ns) (hl : ns.length ≤ sizeLine) (hr : Room k callerA) (hm : ∃ m, s₁.heap.Ns sysModules m)
    (F : ∀ base : Heap, K.In base → base.Ns mainGlobals mg → (∃ m, base.Ns sysModules m) → TabB base mg c T → FnG P w K mg base CX k fa fd [x] sp) (hbind : ∀ (s : Shared) (u : Value), BindsTo s fd ⟨[u], []⟩ [(x, u)])
    (hsp : ∀ H : Hp, H T = some (.tbl #[]) → SqL K H a (ns.map V.int) → sp [.ref a] H (fun v _ => v = .bl true) fun _ _ _ => False) (hCX : ∀ H e s', CX [] H s₁ (fun _ _ _ => False) e s' → False) :
    codeAny (model P w) callerA (.call (.ref fa) ⟨[.ref a], []⟩) (fun r s' => r = .ok (.ret (.bool true)) ∧ OldK s₁.heap s'.heap ∧ s'.os = s₁.os ∧ AllBare s'.gens) s₁ := by
  have rv := vals_ints hi
  have nTa : T ≠ a := fun z => by
    rw [z, ha] at hT
    have := congrArg Obj.data (Option.some.inj hT)
    cases this
  have tabH : ∀ (H : Hp) (b : Addr) (u : HO), H b = some u → b = T → H T = some (.tbl #[]) → ObjOk P w H s₁.heap b u := fun H b u z e t => by
    subst e
    rw [t] at z
    cases z
    exact hT
  cases hk : K.lookup a with
  | some o =>
    have e := KX a o hk
    rw [ha] at e
    cases e
    let H : Hp := fun b => if b = T then some (.tbl #[]) else none
    have H1 : H T = some (.tbl #[]) := if_pos rfl
    have H2 : ∀ {b}, b ≠ T → H b = none := fun n => if_neg n
    refine law_coreT KX hns hb hbb hlim hg hT nT hC hbm ha hr hm F hbind hCX (H := H) ⟨H1, fun b z => .inr (Classical.byContradiction fun n => z (H2 n)), .inl (H2 nTa.symm)⟩
      (hsp H H1 (.inr ⟨_, vs.toArray, _, hk, rfl, rfl, rfl, by rw [List.size_toArray, hi.length]; exact hl, by simpa using rv⟩)) (fun b u z => ?_) fun z => absurd (H2 nTa.symm) z
    by_cases e : b = T
    · exact tabH H b u z e H1
    · rw [H2 e] at z
      cases z
  | none =>
    let H : Hp := fun b => if b = T then some (.tbl #[]) else if b = a then some (.frz { cls := .type "list", data := .seq vs.toArray } (.lst (ns.map V.int))) else none
    have H1 : H T = some (.tbl #[]) := if_pos rfl
    have H3 : H a = some (.frz { cls := .type "list", data := .seq vs.toArray } (.lst (ns.map V.int))) := (if_neg nTa.symm).trans (if_pos rfl)
    have H2 : ∀ {b}, b ≠ T → b ≠ a → H b = none := fun n m => (if_neg n).trans (if_neg m)
    refine law_coreT KX hns hb hbb hlim hg hT nT hC hbm ha hr hm F hbind hCX (H := H) ⟨H1, fun b z => ?_, .inr ⟨_, _, H3⟩⟩ (hsp H H1 (.inl (.inr ⟨_, H3⟩))) (fun b u z => ?_) fun _ => hk
    · by_cases e : b = T
      · exact .inr e
      · by_cases e2 : b = a
        · exact .inl e2
        · exact absurd (H2 e e2) z
    · by_cases e : b = T
      · exact tabH H b u z e H1
      · by_cases e2 : b = a
        · subst e2
          rw [H3] at z
          cases z
          exact ⟨ha, by rw [List.length_map]; exact hl, vs, _, rv, ha⟩
        · rw [H2 e e2] at z
          cases z
end
/-- the goal that k_head leaves; y: the name of the def that makes the lambdas -/
theorem walk_ofGT {l : PySem.W.OpenLaw} {n k : Nat} {q : Program} {loose : List Str} {XP : (Str → Option Value) → Heap → Prop} {YP : World → Heap → Prop} {d : DefRec} {K : Params → PySem.W.Frag} {sp : Addr → PySem.W.Frag → Sp} {x y : Str}
    (hq : importsNone q = true) (hrc : (recsOf q).find? (fun e => e.name == y) = some d) (hn : l.most = some n) (hn2 : n ≤ sizeLine) (hdf : d.params.defaults = []) (hr : Room k callerA) (hY : ∀ (w : World) (h : Heap), YP w h → (K w.params).In h)
    (F : ∀ (w : World) (mg : Str → Option Value) (fa : Addr) (h : Heap), (K w.params).In h → h.Ns mainGlobals mg → mg d.name = some (.ref fa) →
      ∃ (fd : FuncData) (c T : Addr), PySem.W.tabIn (K w.params) y = some (c, T) ∧ (K w.params).lookup T = none ∧ (∀ (s : Shared) (u : Value), BindsTo s fd ⟨[u], []⟩ [(x, u)]) ∧
        ∀ base : Heap, (K w.params).In base → base.Ns mainGlobals mg → (∃ m, base.Ns sysModules m) → TabB base mg c T → FnG l.prog w (K w.params) mg base CX0 k fa fd [x] (sp T (K w.params)))
    (hsp : ∀ (T : Addr) (K : PySem.W.Frag) (H : Hp) (a : Addr) (ns : List Int), ns.length ≤ n → H T = some (.tbl #[]) → SqL K H a (ns.map V.int) → sp T K [.ref a] H (fun v _ => v = .bl true) fun _ _ _ => False) :
    PySem.W.WalkO q loose XP YP l.row.toRowW d [] (fun f vs => PySem.call f vs) := by
  refine Att.attach_call hn hdf fun w s₀ s₁ mg mb fa o pm cd doc a vs ns G Y ho hd hcd hmg hobj hints hlen hg => ?_
  have KX := hY w _ Y
  obtain ⟨fd, c, T, t1, t2, hb, hF⟩ := F w mg fa _ KX G.T.g hmg
  obtain ⟨hC, hT⟩ := PySem.W.tab_of G.T KX hrc t1
  exact law_callGT KX G.T.g G.T.b G.T.builtins G.T.nolimit hg hT t2 hC G.T.bmain hobj hints (Nat.le_trans hlen hn2) hr (sys_of (G.T.seer hq)) hF hb (fun H h1 h2 => hsp T (K w.params) H a ns hlen h1 h2) fun _ _ _ z => z
end Gx

open PySem PySem.W PyProof.Rows Sg in
set_option maxRecDepth 100000 in
set_option maxHeartbeats 0 in
theorem PySem.Challenge.cw_samerounds_k01_webs_made_holds : PySem.Challenge.rw_samerounds_k01_webs_made.Holds := by
  w_on; o_law; k_head; (case hw => w_witness2)
  k_fill
  refine Gx.walk_ofGT (l := PySem.Challenge.rw_samerounds_k01_webs_made) (n := 63) (k := 8) (x := "script") (y := "law") (sp := fun T K => Sg.spLaw T K) (by first | rfl | decide +kernel) ?hrc rfl (by decide) rfl ⟨rfl, by decide, by decide⟩ (fun w h Y => PySem.W.km_in_of Y) ?F (fun T K H a ns hl hT hS => ⟨a, ns, rfl, hT, hS, hl, fun _ => rfl⟩)
  (case hrc => first | kernel_rfl | rfl | decide +kernel)
  case F =>
    intro w mg fa h KX G hmg
    refine' Sg.all_mk KX G hmg ?aW ?lW ?dW ?kW ?aS ?lS ?dS ?kS ?aK ?lK ?dK ?kK ?aD ?lD ?dD ?kD ?aX ?lX ?dX ?kX ?aF ?lF ?dF ?kF ?aR ?lR ?dR ?kR ?aB ?lB ?dB ?kB ?aLk ?lLk ?dLk ?kLk ?aEn ?lEn ?dEn ?kEn ?aOr ?lOr ?dOr ?kOr ?aSt ?lSt ?dSt ?kSt ?aLw ?lLw ?dLw ?kLw ?aMa ?lMa ?dMa ?kMa ?aIs ?lIs ?dIs ?kIs ?aH ?lH ?dH ?kH ?aDu ?lDu ?dDu ?kDu ?aBe ?lBe ?dBe ?kBe ?aL ?lL ?dL ?tab ?aC ?kC ?pg ?hd ?po ?sa ?mk ?nSt ?nSi ?aI ?iI ?lI ?dI ?kI ?aN ?iN ?lN ?dN ?kN ?aM ?z_isinstance ?z_int ?z_bool ?z_tuple ?z_all ?z_zip ?z_list ?z_enumerate ?z_len ?z_max ?z_range ?z_repr ?z_sorted ?z_set ?z_ValueError ?r0 ?r1 ?r2 ?r3 ?r4 ?r5 ?r6 ?r7 ?aRE ?bR0 ?tR0 ?tK ?tR ?tV ?tO ?tE
    (case aW => k_is)
    (case lW => k_is)
    (case dW => k_is)
    (case kW => k_is)
    (case aS => k_is)
    (case lS => k_is)
    (case dS => k_is)
    (case kS => k_is)
    (case aK => k_is)
    (case lK => k_is)
    (case dK => k_is)
    (case kK => k_is)
    (case aD => k_is)
    (case lD => k_is)
    (case dD => k_is)
    (case kD => k_is)
    (case aX => k_is)
    (case lX => k_is)
    (case dX => k_is)
    (case kX => k_is)
    (case aF => k_is)
    (case lF => k_is)
    (case dF => k_is)
    (case kF => k_is)
    (case aR => k_is)
    (case lR => k_is)
    (case dR => k_is)
    (case kR => k_is)
    (case aB => k_is)
    (case lB => k_is)
    (case dB => k_is)
    (case kB => k_is)
    (case aLk => k_is)
    (case lLk => k_is)
    (case dLk => k_is)
    (case kLk => k_is)
    (case aEn => k_is)
    (case lEn => k_is)
    (case dEn => k_is)
    (case kEn => k_is)
    (case aOr => k_is)
    (case lOr => k_is)
    (case dOr => k_is)
    (case kOr => k_is)
    (case aSt => k_is)
    (case lSt => k_is)
    (case dSt => k_is)
    (case kSt => k_is)
    (case aLw => k_is)
    (case lLw => k_is)
    (case dLw => k_is)
    (case kLw => k_is)
    (case aMa => k_is)
    (case lMa => k_is)
    (case dMa => k_is)
    (case kMa => k_is)
    (case aIs => k_is)
    (case lIs => k_is)
    (case dIs => k_is)
    (case kIs => k_is)
    (case aH => k_is)
    (case lH => k_is)
    (case dH => k_is)
    (case kH => k_is)
    (case aDu => k_is)
    (case lDu => k_is)
    (case dDu => k_is)
    (case kDu => k_is)
    (case aBe => k_is)
    (case lBe => k_is)
    (case dBe => k_is)
    (case kBe => k_is)
    (case aL => k_is)
    (case lL => k_is)
    (case dL => k_is)
    (case aC => k_is)
    (case kC => k_is)
    (case pg => k_is)
    (case hd => k_is)
    (case po => k_is)
    (case sa => k_is)
    (case mk => k_is)
    (case nSt => k_is)
    (case nSi => k_is)
    (case aI => k_is)
    (case iI => k_is)
    (case lI => k_is)
    (case dI => k_is)
    (case kI => k_is)
    (case aN => k_is)
    (case iN => k_is)
    (case lN => k_is)
    (case dN => k_is)
    (case kN => k_is)
    (case aM => k_is)
    (case z_isinstance => k_is)
    (case z_int => k_is)
    (case z_bool => k_is)
    (case z_tuple => k_is)
    (case z_all => k_is)
    (case z_zip => k_is)
    (case z_list => k_is)
    (case z_enumerate => k_is)
    (case z_len => k_is)
    (case z_max => k_is)
    (case z_range => k_is)
    (case z_repr => k_is)
    (case z_sorted => k_is)
    (case z_set => k_is)
    (case z_ValueError => k_is)
    case r0 =>
      refine' Sg.row_of KX G PySem.F.excBase_ValueError PySem.W.kxs_ValueError PySem.F.store_ValueError ?aC ?kC ?iC ?lk ?tI ?cell ?code ?hvs ?hfile ?cdI ?cls ?self ?sup ?sB ?qX ?ov ?hh ?sa ?noOp ?zS ?hf ?fN ?hg ?hk ?hs ?ha ?hn ?ht ?hm ?top ?kind ?co ?gen ?nS ?nC ?nA ?noCell ?head ?np ?hpl ?hb1 ?hb2 ?hev ?hdp ?hcp
      (case aC => k_is)
      (case kC => k_is)
      (case iC => k_is)
      (case lk => k_is)
      (case tI => k_is)
      (case cell => k_is)
      (case code => k_is)
      (case hvs => exact rfl)
      (case hfile => decide +kernel)
      (case cdI => k_is)
      (case cls => k_is)
      (case self => k_is)
      (case sup => kernel_rfl)
      (case sB => k_is)
      (case qX => kernel_rfl)
      (case ov => kernel_rfl)
      (case hh => k_is)
      (case sa => k_is)
      (case noOp => k_is)
      (case zS => k_is)
      (case hf => k_is)
      (case fN => k_is)
      (case hg => k_is)
      (case hk => k_is)
      (case hs => k_is)
      (case ha => k_is)
      (case hn => k_is)
      (case ht => k_is)
      (case hm => k_is)
      (case top => decide +kernel)
      (case kind => exact rfl)
      (case co => exact rfl)
      (case gen => exact rfl)
      (case nS => exact rfl)
      (case nC => exact rfl)
      (case nA => exact rfl)
      (case noCell => decide +kernel)
      (case head => exact rfl)
      (case np => decide +kernel)
      (case hpl => exact rfl)
      (case hb1 => intros; exact .of_eq rfl)
      (case hb2 => intros; exact .of_eq rfl)
      (case hev => intro L; exact ⟨_, rfl⟩)
      (case hdp => decide +kernel)
      (case hcp => decide +kernel)
    case r1 =>
      refine' Sg.row_of KX G PySem.F.excBase_ValueError PySem.W.kxs_ValueError PySem.F.store_ValueError ?aC ?kC ?iC ?lk ?tI ?cell ?code ?hvs ?hfile ?cdI ?cls ?self ?sup ?sB ?qX ?ov ?hh ?sa ?noOp ?zS ?hf ?fN ?hg ?hk ?hs ?ha ?hn ?ht ?hm ?top ?kind ?co ?gen ?nS ?nC ?nA ?noCell ?head ?np ?hpl ?hb1 ?hb2 ?hev ?hdp ?hcp
      (case aC => k_is)
      (case kC => k_is)
      (case iC => k_is)
      (case lk => k_is)
      (case tI => k_is)
      (case cell => k_is)
      (case code => k_is)
      (case hvs => exact rfl)
      (case hfile => decide +kernel)
      (case cdI => k_is)
      (case cls => k_is)
      (case self => k_is)
      (case sup => kernel_rfl)
      (case sB => k_is)
      (case qX => kernel_rfl)
      (case ov => kernel_rfl)
      (case hh => k_is)
      (case sa => k_is)
      (case noOp => k_is)
      (case zS => k_is)
      (case hf => k_is)
      (case fN => k_is)
      (case hg => k_is)
      (case hk => k_is)
      (case hs => k_is)
      (case ha => k_is)
      (case hn => k_is)
      (case ht => k_is)
      (case hm => k_is)
      (case top => decide +kernel)
      (case kind => exact rfl)
      (case co => exact rfl)
      (case gen => exact rfl)
      (case nS => exact rfl)
      (case nC => exact rfl)
      (case nA => exact rfl)
      (case noCell => decide +kernel)
      (case head => exact rfl)
      (case np => decide +kernel)
      (case hpl => exact rfl)
      (case hb1 => intros; exact .of_eq rfl)
      (case hb2 => intros; exact .of_eq rfl)
      (case hev => intro L; exact ⟨_, rfl⟩)
      (case hdp => decide +kernel)
      (case hcp => decide +kernel)
    case r2 =>
      refine' Sg.row_of KX G PySem.F.excBase_ValueError PySem.W.kxs_ValueError PySem.F.store_ValueError ?aC ?kC ?iC ?lk ?tI ?cell ?code ?hvs ?hfile ?cdI ?cls ?self ?sup ?sB ?qX ?ov ?hh ?sa ?noOp ?zS ?hf ?fN ?hg ?hk ?hs ?ha ?hn ?ht ?hm ?top ?kind ?co ?gen ?nS ?nC ?nA ?noCell ?head ?np ?hpl ?hb1 ?hb2 ?hev ?hdp ?hcp
      (case aC => k_is)
      (case kC => k_is)
      (case iC => k_is)
      (case lk => k_is)
      (case tI => k_is)
      (case cell => k_is)
      (case code => k_is)
      (case hvs => exact rfl)
      (case hfile => decide +kernel)
      (case cdI => k_is)
      (case cls => k_is)
      (case self => k_is)
      (case sup => kernel_rfl)
      (case sB => k_is)
      (case qX => kernel_rfl)
      (case ov => kernel_rfl)
      (case hh => k_is)
      (case sa => k_is)
      (case noOp => k_is)
      (case zS => k_is)
      (case hf => k_is)
      (case fN => k_is)
      (case hg => k_is)
      (case hk => k_is)
      (case hs => k_is)
      (case ha => k_is)
      (case hn => k_is)
      (case ht => k_is)
      (case hm => k_is)
      (case top => decide +kernel)
      (case kind => exact rfl)
      (case co => exact rfl)
      (case gen => exact rfl)
      (case nS => exact rfl)
      (case nC => exact rfl)
      (case nA => exact rfl)
      (case noCell => decide +kernel)
      (case head => exact rfl)
      (case np => decide +kernel)
      (case hpl => exact rfl)
      (case hb1 => intros; exact .of_eq rfl)
      (case hb2 => intros; exact .of_eq rfl)
      (case hev => intro L; exact ⟨_, rfl⟩)
      (case hdp => decide +kernel)
      (case hcp => decide +kernel)
    case r3 =>
      refine' Sg.row_of KX G PySem.F.excBase_ValueError PySem.W.kxs_ValueError PySem.F.store_ValueError ?aC ?kC ?iC ?lk ?tI ?cell ?code ?hvs ?hfile ?cdI ?cls ?self ?sup ?sB ?qX ?ov ?hh ?sa ?noOp ?zS ?hf ?fN ?hg ?hk ?hs ?ha ?hn ?ht ?hm ?top ?kind ?co ?gen ?nS ?nC ?nA ?noCell ?head ?np ?hpl ?hb1 ?hb2 ?hev ?hdp ?hcp
      (case aC => k_is)
      (case kC => k_is)
      (case iC => k_is)
      (case lk => k_is)
      (case tI => k_is)
      (case cell => k_is)
      (case code => k_is)
      (case hvs => exact rfl)
      (case hfile => decide +kernel)
      (case cdI => k_is)
      (case cls => k_is)
      (case self => k_is)
      (case sup => kernel_rfl)
      (case sB => k_is)
      (case qX => kernel_rfl)
      (case ov => kernel_rfl)
      (case hh => k_is)
      (case sa => k_is)
      (case noOp => k_is)
      (case zS => k_is)
      (case hf => k_is)
      (case fN => k_is)
      (case hg => k_is)
      (case hk => k_is)
      (case hs => k_is)
      (case ha => k_is)
      (case hn => k_is)
      (case ht => k_is)
      (case hm => k_is)
      (case top => decide +kernel)
      (case kind => exact rfl)
      (case co => exact rfl)
      (case gen => exact rfl)
      (case nS => exact rfl)
      (case nC => exact rfl)
      (case nA => exact rfl)
      (case noCell => decide +kernel)
      (case head => exact rfl)
      (case np => decide +kernel)
      (case hpl => exact rfl)
      (case hb1 => intros; exact .of_eq rfl)
      (case hb2 => intros; exact .of_eq rfl)
      (case hev => intro L; exact ⟨_, rfl⟩)
      (case hdp => decide +kernel)
      (case hcp => decide +kernel)
    case r4 =>
      refine' Sg.row_of KX G PySem.F.excBase_ValueError PySem.W.kxs_ValueError PySem.F.store_ValueError ?aC ?kC ?iC ?lk ?tI ?cell ?code ?hvs ?hfile ?cdI ?cls ?self ?sup ?sB ?qX ?ov ?hh ?sa ?noOp ?zS ?hf ?fN ?hg ?hk ?hs ?ha ?hn ?ht ?hm ?top ?kind ?co ?gen ?nS ?nC ?nA ?noCell ?head ?np ?hpl ?hb1 ?hb2 ?hev ?hdp ?hcp
      (case aC => k_is)
      (case kC => k_is)
      (case iC => k_is)
      (case lk => k_is)
      (case tI => k_is)
      (case cell => k_is)
      (case code => k_is)
      (case hvs => exact rfl)
      (case hfile => decide +kernel)
      (case cdI => k_is)
      (case cls => k_is)
      (case self => k_is)
      (case sup => kernel_rfl)
      (case sB => k_is)
      (case qX => kernel_rfl)
      (case ov => kernel_rfl)
      (case hh => k_is)
      (case sa => k_is)
      (case noOp => k_is)
      (case zS => k_is)
      (case hf => k_is)
      (case fN => k_is)
      (case hg => k_is)
      (case hk => k_is)
      (case hs => k_is)
      (case ha => k_is)
      (case hn => k_is)
      (case ht => k_is)
      (case hm => k_is)
      (case top => decide +kernel)
      (case kind => exact rfl)
      (case co => exact rfl)
      (case gen => exact rfl)
      (case nS => exact rfl)
      (case nC => exact rfl)
      (case nA => exact rfl)
      (case noCell => decide +kernel)
      (case head => exact rfl)
      (case np => decide +kernel)
      (case hpl => exact rfl)
      (case hb1 => intros; exact .of_eq rfl)
      (case hb2 => intros; exact .of_eq rfl)
      (case hev => intro L; exact ⟨_, rfl⟩)
      (case hdp => decide +kernel)
      (case hcp => decide +kernel)
    case r5 =>
      refine' Sg.rowN_of KX G PySem.F.excBase_ValueError PySem.W.kxs_ValueError PySem.F.store_ValueError ?aC ?kC ?iC ?lk ?tI ?cell ?code ?hvs ?hfile ?cdI ?cls ?self ?sup ?sB ?qX ?ov ?hh ?sa ?noOp ?zS ?hg ?hk ?hs ?ha ?hn ?ht ?hm ?top ?kind ?co ?gen ?nS ?nC ?nA ?noCell ?head ?hb1 ?hev
      (case aC => k_is)
      (case kC => k_is)
      (case iC => k_is)
      (case lk => k_is)
      (case tI => k_is)
      (case cell => k_is)
      (case code => k_is)
      (case hvs => exact rfl)
      (case hfile => decide +kernel)
      (case cdI => k_is)
      (case cls => k_is)
      (case self => k_is)
      (case sup => kernel_rfl)
      (case sB => k_is)
      (case qX => kernel_rfl)
      (case ov => kernel_rfl)
      (case hh => k_is)
      (case sa => k_is)
      (case noOp => k_is)
      (case zS => k_is)
      (case hg => k_is)
      (case hk => k_is)
      (case hs => k_is)
      (case ha => k_is)
      (case hn => k_is)
      (case ht => k_is)
      (case hm => k_is)
      (case top => decide +kernel)
      (case kind => exact rfl)
      (case co => exact rfl)
      (case gen => exact rfl)
      (case nS => exact rfl)
      (case nC => exact rfl)
      (case nA => exact rfl)
      (case noCell => decide +kernel)
      (case head => exact rfl)
      (case hb1 => intros; exact .of_eq rfl)
      (case hev => intro L; exact ⟨_, rfl⟩)
    case r6 =>
      refine' Sg.row_of KX G PySem.F.excBase_ValueError PySem.W.kxs_ValueError PySem.F.store_ValueError ?aC ?kC ?iC ?lk ?tI ?cell ?code ?hvs ?hfile ?cdI ?cls ?self ?sup ?sB ?qX ?ov ?hh ?sa ?noOp ?zS ?hf ?fN ?hg ?hk ?hs ?ha ?hn ?ht ?hm ?top ?kind ?co ?gen ?nS ?nC ?nA ?noCell ?head ?np ?hpl ?hb1 ?hb2 ?hev ?hdp ?hcp
      (case aC => k_is)
      (case kC => k_is)
      (case iC => k_is)
      (case lk => k_is)
      (case tI => k_is)
      (case cell => k_is)
      (case code => k_is)
      (case hvs => exact rfl)
      (case hfile => decide +kernel)
      (case cdI => k_is)
      (case cls => k_is)
      (case self => k_is)
      (case sup => kernel_rfl)
      (case sB => k_is)
      (case qX => kernel_rfl)
      (case ov => kernel_rfl)
      (case hh => k_is)
      (case sa => k_is)
      (case noOp => k_is)
      (case zS => k_is)
      (case hf => k_is)
      (case fN => k_is)
      (case hg => k_is)
      (case hk => k_is)
      (case hs => k_is)
      (case ha => k_is)
      (case hn => k_is)
      (case ht => k_is)
      (case hm => k_is)
      (case top => decide +kernel)
      (case kind => exact rfl)
      (case co => exact rfl)
      (case gen => exact rfl)
      (case nS => exact rfl)
      (case nC => exact rfl)
      (case nA => exact rfl)
      (case noCell => decide +kernel)
      (case head => exact rfl)
      (case np => decide +kernel)
      (case hpl => exact rfl)
      (case hb1 => intros; exact .of_eq rfl)
      (case hb2 => intros; exact .of_eq rfl)
      (case hev => intro L; exact ⟨_, rfl⟩)
      (case hdp => decide +kernel)
      (case hcp => decide +kernel)
    case r7 =>
      refine' Sg.row_of KX G PySem.F.excBase_OverflowError PySem.W.kxs_OverflowError PySem.F.store_OverflowError ?aC ?kC ?iC ?lk ?tI ?cell ?code ?hvs ?hfile ?cdI ?cls ?self ?sup ?sB ?qX ?ov ?hh ?sa ?noOp ?zS ?hf ?fN ?hg ?hk ?hs ?ha ?hn ?ht ?hm ?top ?kind ?co ?gen ?nS ?nC ?nA ?noCell ?head ?np ?hpl ?hb1 ?hb2 ?hev ?hdp ?hcp
      (case aC => k_is)
      (case kC => k_is)
      (case iC => k_is)
      (case lk => k_is)
      (case tI => k_is)
      (case cell => k_is)
      (case code => k_is)
      (case hvs => exact rfl)
      (case hfile => decide +kernel)
      (case cdI => k_is)
      (case cls => k_is)
      (case self => k_is)
      (case sup => kernel_rfl)
      (case sB => k_is)
      (case qX => kernel_rfl)
      (case ov => kernel_rfl)
      (case hh => k_is)
      (case sa => k_is)
      (case noOp => k_is)
      (case zS => k_is)
      (case hf => k_is)
      (case fN => k_is)
      (case hg => k_is)
      (case hk => k_is)
      (case hs => k_is)
      (case ha => k_is)
      (case hn => k_is)
      (case ht => k_is)
      (case hm => k_is)
      (case top => decide +kernel)
      (case kind => exact rfl)
      (case co => exact rfl)
      (case gen => exact rfl)
      (case nS => exact rfl)
      (case nC => exact rfl)
      (case nA => exact rfl)
      (case noCell => decide +kernel)
      (case head => exact rfl)
      (case np => decide +kernel)
      (case hpl => exact rfl)
      (case hb1 => intros; exact .of_eq rfl)
      (case hb2 => intros; exact .of_eq rfl)
      (case hev => intro L; exact ⟨_, rfl⟩)
      (case hdp => decide +kernel)
      (case hcp => decide +kernel)
    (case aRE => k_is)
    (case bR0 => k_is)
    (case tR0 => k_is)
    (case tab => first | k_is | kernel_rfl)
    (case tK => kernel_rfl)
    (case tR => kernel_rfl)
    (case tV => kernel_rfl)
    (case tO => kernel_rfl)
    (case tE => kernel_rfl)

