import PyProof.Rows.All
import Wide.All
import OpenK.AllK
import Wide.FinOn
import HandS.ForMost
import HandS.EndBits
import HandS.Wide
import HandS.Codes
import PySem.Challenge.RW_redraw_k06_refusals_made
import HandS.ExcValue
import HandS.ExcIs
import HandS.IsInst
import HandS.Style
set_option Elab.async false
set_option linter.all false
set_option maxRecDepth 100000
set_option maxHeartbeats 4000000
namespace Rd
open PySem PySem.Spec PyProof.Rows L2
def topS (i : Nat) : Stmt := PySem.Challenge.pw_redraw_k06_refusals_made.main.body.getD i (.Pass ⟨0, 0, 0, 0⟩)
abbrev sWell : Stmt := topS 30
abbrev sDraw : Stmt := topS 31
abbrev nWell : List Str := ["script", "seed", "cell"]
abbrev nDraw : List Str := ["well", "many", "cell", "found"]
theorem scWell : FnScope nWell ["script"] (defScope sWell) := ⟨rfl, rfl, rfl, by decide +kernel, rfl, by decide +kernel, by decide +kernel⟩
theorem scDraw : FnScope nDraw ["well", "many"] (defScope sDraw) := ⟨rfl, rfl, rfl, by decide +kernel, rfl, by decide +kernel, by decide +kernel⟩

/-! ### numbers -/
def CPowW (i j : Int) : Prop := 0 ≤ j ∧ (Builtin.Int.intBits i : Int) * j ≤ 2 ^ 27
theorem op_powW {X : Cx} : OpR X (binaryOp .Pow) (rI CPowW fun i j => .int (i ^ j.toNat)) := opI fun _ _ _ _ _ _ _ hc q => pow_int hc.1 hc.2 q
theorem abs_of_bits {a : Int} {n : Nat} (h : Builtin.Int.intBits a ≤ n) : a.natAbs < 2 ^ n := by
  unfold Builtin.Int.intBits at h
  by_cases e : a = 0
  · subst e
    exact Nat.two_pow_pos n
  · have e2 : a.natAbs ≠ 0 := by omega
    have h2 : a.natAbs.log2 + 1 ≤ n := by
      split at h
      · rename_i q
        simp at q
        exact absurd q e
      · exact h
    exact Nat.lt_of_lt_of_le Nat.lt_log2_self (Nat.pow_le_pow_right (by decide) h2)
theorem mix_bits {sd c : Int} {n : Nat} (h0 : 0 ≤ sd) (h1 : sd ≤ 2147483629) (hc : Builtin.Int.intBits c ≤ n) (hn : 47 ≤ n) : Builtin.Int.intBits (sd * 50021 + c) ≤ n + 1 := by
  refine intBits_le ?_
  have a := abs_of_bits hc
  have b : (140737488355328 : Nat) ≤ 2 ^ n := Nat.le_trans (by decide : (140737488355328 : Nat) ≤ 2 ^ 47) (Nat.pow_le_pow_right (by decide) hn)
  rw [Nat.pow_succ]
  generalize (2 : Nat) ^ n = m at a b
  omega

/-! ### the well -/
structure WellC (cs : List Int) (b c : Int) : Prop where
  b0 : 0 ≤ b
  c0 : 0 ≤ c
  c1 : c ≤ 2147483647
  nn : ∀ x ∈ cs, 0 ≤ x
def Well (H : Hp) (wl cl : Addr) : Prop := ∃ (cs : List Int) (b c : Int), H wl = some (.lst [.ref cl, .int b, .int c]) ∧ H cl = some (.lst (cs.map V.int)) ∧ WellC cs b c
theorem Well.ne {H : Hp} {wl cl : Addr} (h : Well H wl cl) : wl ≠ cl := by
  obtain ⟨cs, b, c, h1, h2, _⟩ := h
  refine ne_of h1 h2 fun e => ?_
  cases cs with
  | nil => cases e
  | cons x r => cases e
/-- H' is H but for the well -/
def Drawn (wl cl : Addr) (H H' : Hp) : Prop := (∀ b o, b ≠ wl → b ≠ cl → H b = some o → H' b = some o) ∧ Well H' wl cl
theorem same_upd {H : Hp} {p : Addr} {o : HO} (h : H p = none) : Same H (upd H p o) := fun b x e => by
  rw [upd_ne (ne_of_none e h)]
  exact e
def spWell (K : PySem.W.Frag) : Sp := fun vs H Q _ => ∃ (a : Addr) (ns : List Int), vs = [.ref a] ∧ SqL K H a (ns.map V.int) ∧ ns.length ≤ 63 ∧ (∀ z ∈ ns, Builtin.Int.intBits z ≤ 1048576) ∧
  ∀ H' wl cl, Same H H' → H wl = none → H cl = none → Well H' wl cl → Q (.ref wl) H'
def spDraw : Sp := fun vs H Q _ => ∃ (wl cl : Addr) (m : Int), vs = [.ref wl, .int m] ∧ Well H wl cl ∧ 1 ≤ m ∧ m.natAbs.log2 < 9000 ∧
  ∀ H' d, Drawn wl cl H H' → 0 ≤ d → d < m → Q (.int d) H'
section
variable {P : Program} {w : World} {K : PySem.W.Frag} {mg : Str → Option Value} {base : Heap}
theorem ok_well {f : Addr} {fd : FuncData} {k : Nat} (F : Fun K "_law_well" "_law_well" sWell f fd) (mabs : mg "abs" = none) : FnOk P w K mg base CX0 (k + 1) f fd ["script"] (spWell K) := by
  refine F.ok scWell (fun vs H Q E h => ?_) (fun cdv A outer s H vs Q E hr h => ?_)
  · obtain ⟨a, ns, rfl, _⟩ := h
    rfl
  · obtain ⟨a, ns, rfl, hS, hlen, hbits, q⟩ := h
    refine ⟨_, pss_cons (ps_set (i := 1) scWell.nd rfl (.inl rfl) pe_int)
      (pss_cons (ps_for PassesOwn.never rfl (pi_list (pv 0)) (pg_name (i := 2) scWell.nd rfl (.inl rfl))
        (pss_one (ps_set (i := 1) scWell.nd rfl (.inl rfl) (pe_op op_add (pe_op op_mod (pe_op op_powW (pe_op op_add (pe_op op_mul (pv 1) pe_int) (pv 2)) pe_int) pe_int) pe_int))))
      (pss_one (ps_ret (pe_lst (pa_cons (pe_lc (own := [("cell", 2)]) (g := gName 2) (tt := tYes) rfl scWell.nd (pi_list (pv 0)) (blkOk_by (own := [("cell", 2)]) (N := nWell) (sc := defScope sWell) (by decide +kernel))
          (fun _ _ _ _ _ => pg_name (i := 2) scWell.nd rfl (Or.inl rfl)) (fun _ _ _ _ _ => pts_nil) (fun _ _ _ _ _ => pe_callB call_abs (by rfl) mabs (by decide +kernel) (pa_cons (pv 2) pa_nil)))
        (pa_cons pe_int (pa_cons (pv 1) pa_nil))))))), ?_⟩
    refine ⟨.ref a, rfl, a, rfl, ⟨_, hS⟩, for_list (xs := ns.map V.int) (fun i σ H' => ∃ y2 sd, σ = [some (.ref a), some (.int sd), y2] ∧ 0 ≤ sd ∧ sd ≤ 2147483629 ∧ H' = H) ⟨none, 1, rfl, by decide, by decide, rfl⟩ (fun i σ H' _ p => ?_) (fun i x σ H' hx p => ?_) (fun σ H' p => ?_)⟩
    · obtain ⟨_, _, _, _, _, rfl⟩ := p
      exact hS
    · obtain ⟨y2, sd, rfl, h0, h1, rfl⟩ := p
      rw [List.getElem?_map] at hx
      obtain ⟨z, hz, rfl⟩ : ∃ z, ns[i]? = some z ∧ V.int z = x := by
        cases e : ns[i]? with
        | none => rw [e] at hx; cases hx
        | some z => rw [e] at hx; exact ⟨z, rfl, Option.some.inj hx⟩
      have hb := hbits z (List.mem_of_getElem? hz)
      have hm := mix_bits h0 h1 hb (by decide)
      refine ⟨_, rfl, sd, 50021, rfl, rfl, .inl ⟨by omega, by omega⟩, _, rfl, _, _, rfl, rfl, _, _, rfl, rfl, ⟨by decide, by omega⟩, _, _, rfl, rfl, (by show (0 : Int) < 2147483629; decide), _, _, rfl, rfl, ?_⟩
      have g1 := Int.emod_nonneg ((sd * 50021 + z) ^ (3 : Int).toNat) (by decide : (2147483629 : Int) ≠ 0)
      have g2 := Int.emod_lt_of_pos ((sd * 50021 + z) ^ (3 : Int).toNat) (by decide : (0 : Int) < 2147483629)
      exact ⟨_, _, rfl, by omega, by omega, rfl⟩
    · obtain ⟨y2, sd, rfl, h0, h1, rfl⟩ := p
      refine ⟨.ref a, rfl, a, rfl, ⟨_, hS⟩, fun D hD => lc_list (K := K) (a := a) (xs := ns.map V.int) (fun i H1 => H1 D = some (.lst (((ns.take i).map fun z => if z < 0 then -z else z).map V.int)) ∧ Same H' H1 ∧ ∀ b, b ≠ D → H1 b = H' b) ⟨upd_same, same_upd hD, fun b hb => upd_ne hb⟩ (fun i H1 _ p => p.2.1.seq hS) (fun i x H1 hx p => ?_) (fun H1 p => ?_)⟩
      · rw [List.getElem?_map] at hx
        obtain ⟨z, hz, rfl⟩ : ∃ z, ns[i]? = some z ∧ V.int z = x := by
          cases e : ns[i]? with
          | none => rw [e] at hx; cases hx
          | some z => rw [e] at hx; exact ⟨z, rfl, Option.some.inj hx⟩
        refine ⟨rfl, ?_⟩
        dsimp only [tYes]
        rw [if_pos rfl]
        refine ⟨.int z, rfl, z, rfl, _, p.1, ?_, ?_, ?_, ?_⟩
        · rw [List.length_map, List.length_map, List.length_take]
          exact small1000 (by omega)
        · rw [upd_same, List.take_add_one, hz, List.map_append, List.map_append]
          rfl
        · intro b o e
          rw [upd_ne (ne_of_none e hD)]
          exact p.2.1 b o e
        · intro b hb
          rw [upd_ne hb]
          exact p.2.2 b hb
      · obtain ⟨p1, p2, p3⟩ := p
        rw [List.length_map, List.take_length] at p1
        refine ⟨.int sd, rfl, (by show 3 ≤ sizeLine; decide), fun l hl => ?_⟩
        have ne : D ≠ l := ne_of_none p1 hl
        refine q _ l D (p2.trans (same_upd hl)) ?_ hD ⟨_, 0, sd, upd_same, by rw [upd_ne ne]; exact p1, by decide, h0, by omega, ?_⟩
        · exact p2.free hl
        · intro x hx
          obtain ⟨z, _, rfl⟩ := List.mem_map.mp hx
          split <;> omega
theorem dpInts {K : PySem.W.Frag} {H : Hp} : ∀ ns : List Int, DpAll K H (ns.map V.int) (ns.map PyData.int)
  | [] => .nil
  | n :: r => .cons (.int n) (dpInts r)
theorem eqv_nil_cons (z : Int) (r : List Int) : PyData.eqv (.list ((z :: r).map PyData.int)) (.list []) = false := by
  simp [PyData.eqv, PyData.eqvAll]
theorem eqv_nil_nil : PyData.eqv (.list (([] : List Int).map PyData.int)) (.list []) = true := by
  simp [PyData.eqv, PyData.eqvAll]
theorem Well.mk {H : Hp} {wl cl : Addr} {cs : List Int} {b c : Int} (h1 : H wl = some (.lst [.ref cl, .int b, .int c])) (h2 : H cl = some (.lst (cs.map V.int))) (h : WellC cs b c) : Well H wl cl := ⟨cs, b, c, h1, h2, h⟩
theorem ok_draw {f : Addr} {fd : FuncData} {k : Nat} (F : Fun K "_law_draw" "_law_draw" sDraw f fd) : FnOk P w K mg base CX0 (k + 1) f fd ["well", "many"] spDraw := by
  refine F.ok scDraw (fun vs H Q E h => ?_) (fun cdv A outer s H vs Q E hr h => ?_)
  · obtain ⟨wl, cl, m, rfl, _⟩ := h
    rfl
  · obtain ⟨wl, cl, m, rfl, hW, hm, hlog, q⟩ := h
    have hwc := hW.ne
    have pix : ∀ {X : Cx} {a b : Expr} {pos : Pos} {ta tb : TE}, PE X a ta → PE X b tb → PlainIx b → PE X (.Subscript a b pos) (tOp (rIxL X.K) ta tb) := fun ha hb hs => pe_ix ix_list ha hb hs
    refine ⟨_, C8.pss_cut (ps_if (PW.pt (pw_and (pt_cmpR op_eq (pe_ix ix_list (pv 0) pe_int (fun _ _ => rfl)) pe_int (nomark _)) (pw_and1 (pt_cmpR (op_neD hr.units) (pe_ix ix_list (pv 0) pe_int (fun _ _ => rfl)) (pe_lst pa_nil) (nomark _)))))
        (pss_cons (ps_set (i := 2) scDraw.nd rfl (.inl rfl) (pe_bm PySem.F.plainAttrs_list PySem.F.slot_list_pop PySem.F.type_list_pop mt_popAt (pe_ix ix_list (pv 0) pe_int (fun _ _ => rfl)) (pa_cons pe_int pa_nil)))
        (pss_cons (ps_if (pt_cmpR op_lt (pv 2) (pe_op op_pow pe_int pe_int) (nomark _)) (pss_one (ps_ret (pe_op op_mod (pv 2) (pv 1)))) pss_nil)
        (pss_one (ps_asg (pv 2) (pg_sub (pv 0) pe_int set_list))))) pss_nil)
      (pss_cons (ps_if (pt_cmpR op_gt (pe_ix ix_list (pv 0) pe_int (fun _ _ => rfl)) pe_int (nomark _))
        (pss_cons (ps_set (i := 3) scDraw.nd rfl (.inl rfl) (pe_op op_mod (pe_ix ix_list (pv 0) pe_int (fun _ _ => rfl)) (pv 1)))
        (pss_cons (ps_asg (pe_op op_fdivW (pe_ix ix_list (pv 0) pe_int (fun _ _ => rfl)) (pv 1)) (pg_sub (pv 0) pe_int set_list))
        (pss_one (ps_ret (pv 3))))) pss_nil)
      (pss_cons (ps_asg (pe_op op_mod (pe_op op_add (pe_op op_mul (pe_ix ix_list (pv 0) pe_int (fun _ _ => rfl)) pe_int) pe_int) pe_int) (pg_sub (pv 0) pe_int set_list))
      (pss_one (ps_ret (pe_op op_mod (pe_op op_fdiv (pe_op op_mod (pe_op op_pow (pe_op op_mod (pe_op op_pow (pe_ix ix_list (pv 0) pe_int (fun _ _ => rfl)) pe_int) pe_int) pe_int) pe_int) pe_int) (pv 1)))))), ?_⟩
    refine ⟨fun σ H' => Drawn wl cl H H' ∧ ∃ y2 y3, σ = [some (.ref wl), some (.int m), y2, y3], ?_, ?_⟩
    · obtain ⟨cs, b, c, h1, h2, hc⟩ := hW
      refine ⟨.ref wl, rfl, wl, _, 1, _, rfl, rfl, .inl (.inl h1), rfl, rfl, _, rfl, ?_⟩
      refine ite2 (fun e => ?_) (fun e => ?_)
      · refine ⟨.ref wl, rfl, wl, _, 0, _, rfl, rfl, .inl (.inl h1), rfl, (by show 0 ≤ sizeLine; decide), fun p hp => ?_⟩
        have np1 : wl ≠ p := ne_of_none h1 hp
        have np2 : cl ≠ p := ne_of_none h2 hp
        have g1 : upd H p (.lst []) wl = some (.lst [.ref cl, .int b, .int c]) := by rw [upd_ne np1]; exact h1
        have g2 : upd H p (.lst []) cl = some (.lst (cs.map V.int)) := by rw [upd_ne np2]; exact h2
        refine ⟨.list (cs.map .int), .list [], .lst (.inl (.inl g2)) (dpInts cs), .lst (.inl (.inl upd_same)) .nil, PySem.W.shaped_ints cs, PySem.W.shaped_ints [], _, rfl, ?_⟩
        cases cs with
        | nil =>
          rw [eqv_nil_nil]
          refine iteF ?_
          exact ⟨⟨fun b' o n1 n2 e => same_upd hp _ _ e, [], b, c, g1, g2, hc⟩, none, none, rfl⟩
        | cons z r =>
          rw [eqv_nil_cons]
          refine iteT ?_
          have hz : 0 ≤ z := hc.nn z List.mem_cons_self
          refine ⟨.ref wl, rfl, wl, _, 0, _, rfl, rfl, .inl (.inl g1), rfl, .inl ⟨rfl, _, .inl (.inl g2)⟩, cl, _, 0, 0, .int z, rfl, rfl, g2, by decide, by decide, seqIndex_of (by decide) (by simp <;> omega), rfl, ?_⟩
          refine ⟨.int z, rfl, 10, 18, rfl, rfl, ⟨by decide, by decide, by decide⟩, _, _, rfl, rfl, _, rfl, ?_⟩
          have k1 : ∀ o, upd (upd H p (.lst [])) cl o wl = some (.lst [.ref cl, .int b, .int c]) := fun o => by rw [upd_ne hwc]; exact g1
          have kd : ∀ o b' o', b' ≠ wl → b' ≠ cl → H b' = some o' → upd (upd H p (.lst [])) cl o b' = some o' := fun o b' o' n1 n2 e => by rw [upd_ne n2]; exact same_upd hp _ _ e
          refine ite2 (fun e2 => ?_) (fun e2 => ?_)
          · refine ⟨.int z, rfl, .int m, rfl, z, m, rfl, rfl, (by show 0 < m; omega), q _ _ ⟨kd _, r, b, c, k1 _, upd_same, hc.b0, hc.c0, hc.c1, fun x hx => hc.nn x (List.mem_cons_of_mem _ hx)⟩ (Int.emod_nonneg _ (by omega)) (Int.emod_lt_of_pos _ (by omega))⟩
          · refine ⟨.int z, rfl, .ref wl, rfl, wl, _, 1, 1, rfl, rfl, k1 _, rfl, ?_⟩
            refine ⟨⟨fun b' o n1 n2 e => ?_, r, z, c, upd_same, ?_, hz, hc.c0, hc.c1, fun x hx => hc.nn x (List.mem_cons_of_mem _ hx)⟩, some (.int z), none, rfl⟩
            · rw [upd_ne n1]; exact kd _ b' o n1 n2 e
            · rw [upd_ne hwc.symm]; exact upd_same
      · exact ⟨⟨fun _ _ _ _ e => e, cs, b, c, h1, h2, hc⟩, none, none, rfl⟩
    · intro σ H1 hM
      obtain ⟨⟨hD, hW1⟩, y2, y3, rfl⟩ := hM
      obtain ⟨cs, b, c, h1, h2, hc⟩ := hW1
      have q2 : ∀ (o : List V) (b' c' d : Int), o = [.ref cl, .int b', .int c'] → 0 ≤ b' → 0 ≤ c' → c' ≤ 2147483647 → 0 ≤ d → d < m → Q (.int d) (upd H1 wl (.lst o)) := fun o b' c' d eo x1 x2 x3 x4 x5 =>
        q _ _ ⟨fun a o' n1 n2 e => by rw [upd_ne n1]; exact hD a o' n1 n2 e, cs, b', c', by rw [eo]; exact upd_same, by rw [upd_ne hwc.symm]; exact h2, x1, x2, x3, hc.nn⟩ x4 x5
      refine ⟨.ref wl, rfl, wl, _, 1, _, rfl, rfl, .inl (.inl h1), rfl, b, 0, rfl, rfl, _, rfl, ?_⟩
      refine ite2 (fun e => ?_) (fun e => ?_)
      · have hb0 := hc.b0
        refine ⟨.ref wl, rfl, wl, _, 1, _, rfl, rfl, .inl (.inl h1), rfl, .int m, rfl, b, m, rfl, rfl, (by show 0 < m; omega), ?_⟩
        refine ⟨.ref wl, rfl, wl, _, 1, _, rfl, rfl, .inl (.inl h1), rfl, .int m, rfl, b, m, rfl, rfl, ⟨by omega, hlog⟩, .ref wl, rfl, wl, _, 1, 1, rfl, rfl, h1, rfl, ?_⟩
        exact ⟨.int (b % m), rfl, q2 _ (b / m) c _ rfl (Int.ediv_nonneg hb0 (by omega)) hc.c0 hc.c1 (Int.emod_nonneg _ (by omega)) (Int.emod_lt_of_pos _ (by omega))⟩
      · have hc0 := hc.c0
        have hc1 := hc.c1
        refine ⟨.ref wl, rfl, wl, _, 2, _, rfl, rfl, .inl (.inl h1), rfl, c, 48271, rfl, rfl, .inl ⟨by omega, by omega⟩, _, _, rfl, rfl, _, _, rfl, rfl, (by show (0 : Int) < 2147483647; decide), .ref wl, rfl, wl, _, 2, 2, rfl, rfl, h1, rfl, ?_⟩
        have n1 := Int.emod_nonneg (c * 48271 + 12345) (by decide : (2147483647 : Int) ≠ 0)
        have n2 := Int.emod_lt_of_pos (c * 48271 + 12345) (by decide : (0 : Int) < 2147483647)
        generalize ec : (c * 48271 + 12345) % 2147483647 = c' at n1 n2
        have n3 := Int.emod_nonneg (c' ^ (3 : Int).toNat) (by decide : (2147483629 : Int) ≠ 0)
        have n4 := Int.emod_lt_of_pos (c' ^ (3 : Int).toNat) (by decide : (0 : Int) < 2147483629)
        refine ⟨.ref wl, rfl, wl, _, 2, _, rfl, rfl, .inl (.inl upd_same), rfl, c', 3, by rw [← ec], rfl, ⟨by decide, by decide, by omega⟩, _, _, rfl, rfl, (by show (0 : Int) < 2147483629; decide), _, 5, rfl, rfl, ⟨by decide, by decide, by omega⟩, _, _, rfl, rfl, (by show (0 : Int) < 1000000007; decide), _, 7, rfl, rfl, ⟨by decide, by decide⟩, .int m, rfl, _, m, rfl, rfl, (by show 0 < m; omega), ?_⟩
        exact q2 _ b c' _ (by rw [← ec]; rfl) hc.b0 n1 (by omega) (Int.emod_nonneg _ (by omega)) (Int.emod_lt_of_pos _ (by omega))
end
end Rd

set_option Elab.async false
set_option linter.all false
set_option maxRecDepth 100000
set_option maxHeartbeats 4000000
namespace Rd
open PySem PySem.Spec PyProof.Rows L2
abbrev sKinds : Stmt := topS 32
abbrev sLaw : Stmt := topS 33
abbrev sRid : Stmt := topS 15
abbrev nKinds : List Str := ["one", "found"]
abbrev nLaw : List Str := ["script", "well", "text", "some", "at", "one", "k"]
abbrev nRid : List Str := ["thing", "many", "hues", "wishes", "wish"]
theorem scKinds : FnScope nKinds ["one"] (defScope sKinds) := ⟨rfl, rfl, rfl, by decide +kernel, rfl, by decide +kernel, by decide +kernel⟩
theorem scLaw : FnScope nLaw ["script"] (defScope sLaw) := ⟨rfl, rfl, rfl, by decide +kernel, rfl, by decide +kernel, by decide +kernel⟩
theorem scRid : FnScope nRid ["thing"] (defScope sRid) := ⟨rfl, rfl, rfl, by decide +kernel, rfl, by decide +kernel, by decide +kernel⟩
/-! ### calls of defs, short -/
def Cal (P : Program) (w : World) (K : PySem.W.Frag) (mg : Str → Option Value) (base : Heap) (k : Nat) (x : Str) (ps : List Str) (sp : Sp) : Prop :=
  ∃ (f : Addr) (fd : FuncData), FnOk P w K mg base CX0 k f fd ps sp ∧ mg x = some (.ref f) ∧ PySem.W.keepIn K (.ref f) = true ∧ Binds K fd ps []
theorem pe_cal {X : Cx} {k : Nat} {x : Str} {ps : List Str} {sp : Sp} {p pos : Pos} {e : Expr} {es : List Expr} {t : TA} (C : Cal X.prog X.w X.K X.mg X.base k x ps sp) (hr : Room k X.A) (hg : Gl X x)
    (ha : PA X (e :: es) t) (hdb : (x == ("__debug__" : Str)) = false := by decide) (he : starEach (e :: es) X.env = (false, eval e X.env) :: starEach es X.env := by rfl) (hpl : (backTo pos (starEach es X.env)).any (·.1) = false := by rfl) :
    PE X (.Call (.Name x p) (e :: es) [] pos) (tCall sp [] E0 t) := by
  obtain ⟨f, fd, F, hm, hk, hb⟩ := C
  exact pe_call F hr hg hm hk hb .nil pass0 ha hdb he hpl
theorem pe_gref {X : Cx} {x : Str} {a : Addr} {pos : Pos} (hg : Gl X x) (hm : X.mg x = some (.ref a)) (hd : (x == ("__debug__" : Str)) = false := by decide) : PE X (.Name x pos) (tC (.ref a)) := pe_glob hg hm rfl hd
/-! ### isinstance of an exception that is held -/
def rIsX (K : PySem.W.Frag) : List V → Hp → VK → Prop := fun xs H Q => ∃ (a D : Addr) (c : V) (cv : Value) (b : Bool), xs = [.ref a, c] ∧ H a = some (ExO (.ref D) a) ∧ ExcC K D ∧ ClsV c cv ∧ PySem.W.kitOne K (.ref D) cv = some b ∧ Q (.bl b) H
theorem call_isX {X : Cx} : CallR X (.builtin "isinstance") (rIsX X.K) := by
  intro pins s σ H xs us Q I r h
  obtain ⟨a, D, c, cv, b, rfl, ha, C, k, e, q⟩ := h
  obtain ⟨u1, u2, rfl, r1, r2⟩ := vals2 r
  have e2 := k.eq r2
  subst e2
  cases (show u1 = Value.ref a from r1)
  obtain ⟨⟨oe, vs, hget, hz, hd, _⟩, _, _⟩ := I.hok a _ ha
  have J : PySem.W.InstAt s.heap a oe D none := by
    obtain ⟨oc, od, oda, osl⟩ := oe
    obtain ⟨h1, h2⟩ := hz
    dsimp only at h1 h2 hd
    subst h1 h2 hd
    exact ⟨hget, rfl, rfl, trivial⟩
  exact PySem.W.kia_one (PySem.W.handS_kitx_exc C.hg C.hk C.hs C.hd C.ha C.hn C.ht C.hm) I.kIn J e (fun z => nomatch z) fun tk => ⟨.bl b, H, I.tok tk, rfl, q⟩
/-! ### the classes -/
structure Cls6 (K : PySem.W.Frag) (mg : Str → Option Value) (C : Nat → Addr) : Prop where
  g_NoEnd : mg "NoEnd" = some (.ref (C 0))
  g_NoLog : mg "NoLog" = some (.ref (C 1))
  g_NoName : mg "NoName" = some (.ref (C 2))
  g_NoRow : mg "NoRow" = some (.ref (C 3))
  g_NoStep : mg "NoStep" = some (.ref (C 4))
  g_NoTable : mg "NoTable" = some (.ref (C 5))
  g_NoText : mg "NoText" = some (.ref (C 6))
  g_NoWish : mg "NoWish" = some (.ref (C 7))
  g_Spent : mg "Spent" = some (.ref (C 8))
  g_Told : mg "Told" = some (.ref (C 9))
  g_TooMany : mg "TooMany" = some (.ref (C 10))
  g_DrawError : mg "DrawError" = some (.ref (C 11))
  m_isinstance : mg "isinstance" = none
  x : ∀ i, i < 12 → PySem.W.excIn K (C i) [.type "ValueError", .type "Exception", .type "BaseException", .type "object"] "ValueError.__new__" = true
  k : ∀ i, i < 12 → PySem.W.keepIn K (.ref (C i)) = true
  e : ∀ i, i < 12 → ExcC K (C i)
  kit : ∀ i, i < 12 → ∀ j, j < 11 → PySem.W.kitOne K (.ref (C i)) (.ref (C j)) = some (decide (i = j))
  kitD : ∀ i, i < 12 → PySem.W.kitOne K (.ref (C i)) (.ref (C 11)) = some true
  kitV : ∀ i, i < 12 → PySem.W.kitOne K (.ref (C i)) (.type "ValueError") = some true
def kindsV (i : Nat) : List V := (List.range 11).map fun j => .bl (decide (i = j))
def spKinds (C : Nat → Addr) : Sp := fun vs H Q _ => ∃ (a : Addr) (i : Nat), vs = [.ref a] ∧ i < 12 ∧ H a = some (ExO (.ref (C i)) a) ∧
  ∀ H' p, Same H H' → H p = none → H' p = some (.lst (kindsV i)) → Q (.ref p) H'
def spRid : Sp := fun vs H Q _ => ∃ z : Str, vs = [.str z] ∧ Q (.bl false) H
section
variable {P : Program} {w : World} {K : PySem.W.Frag} {mg : Str → Option Value} {base : Heap} {C : Nat → Addr}
theorem ok_kinds {f : Addr} {fd : FuncData} {k : Nat} (F : Fun K "_law_kinds" "_law_kinds" sKinds f fd) (T : Cls6 K mg C) : FnOk P w K mg base CX0 (k + 1) f fd ["one"] (spKinds C) := by
  refine F.ok scKinds (fun vs H Q E h => ?_) (fun cdv A outer s H vs Q E hr h => ?_)
  · obtain ⟨a, i, rfl, _⟩ := h
    rfl
  · obtain ⟨a, i, rfl, hi, ha, q⟩ := h
    refine ⟨_, (pss_cons (ps_set (i := 1) scKinds.nd rfl (Or.inl rfl) (pe_lst (pa_cons (pe_callB call_isX (by rfl) T.m_isinstance (by decide +kernel) (pa_cons (pv 0) (pa_cons (pe_gref (by rfl) T.g_NoEnd) pa_nil))) (pa_cons (pe_callB call_isX (by rfl) T.m_isinstance (by decide +kernel) (pa_cons (pv 0) (pa_cons (pe_gref (by rfl) T.g_NoLog) pa_nil))) (pa_cons (pe_callB call_isX (by rfl) T.m_isinstance (by decide +kernel) (pa_cons (pv 0) (pa_cons (pe_gref (by rfl) T.g_NoName) pa_nil))) (pa_cons (pe_callB call_isX (by rfl) T.m_isinstance (by decide +kernel) (pa_cons (pv 0) (pa_cons (pe_gref (by rfl) T.g_NoRow) pa_nil))) pa_nil))))))
  (pss_cons (ps_set (i := 1) scKinds.nd rfl (Or.inl rfl) (pe_op op_cat (pv 1) (pe_lst (pa_cons (pe_callB call_isX (by rfl) T.m_isinstance (by decide +kernel) (pa_cons (pv 0) (pa_cons (pe_gref (by rfl) T.g_NoStep) pa_nil))) (pa_cons (pe_callB call_isX (by rfl) T.m_isinstance (by decide +kernel) (pa_cons (pv 0) (pa_cons (pe_gref (by rfl) T.g_NoTable) pa_nil))) (pa_cons (pe_callB call_isX (by rfl) T.m_isinstance (by decide +kernel) (pa_cons (pv 0) (pa_cons (pe_gref (by rfl) T.g_NoText) pa_nil))) pa_nil))))))
  (pss_cons (ps_set (i := 1) scKinds.nd rfl (Or.inl rfl) (pe_op op_cat (pv 1) (pe_lst (pa_cons (pe_callB call_isX (by rfl) T.m_isinstance (by decide +kernel) (pa_cons (pv 0) (pa_cons (pe_gref (by rfl) T.g_NoWish) pa_nil))) (pa_cons (pe_callB call_isX (by rfl) T.m_isinstance (by decide +kernel) (pa_cons (pv 0) (pa_cons (pe_gref (by rfl) T.g_Spent) pa_nil))) (pa_cons (pe_callB call_isX (by rfl) T.m_isinstance (by decide +kernel) (pa_cons (pv 0) (pa_cons (pe_gref (by rfl) T.g_Told) pa_nil))) pa_nil))))))
  (pss_one (ps_ret (pe_op op_cat (pv 1) (pe_lst (pa_cons (pe_callB call_isX (by rfl) T.m_isinstance (by decide +kernel) (pa_cons (pv 0) (pa_cons (pe_gref (by rfl) T.g_TooMany) pa_nil))) pa_nil)))))))), ?_⟩
    refine ⟨.ref a, rfl, a, C i, _, _, _, rfl, ha, T.e i hi, .own _, T.kit i hi 0 (by decide), .ref a, rfl, a, C i, _, _, _, rfl, ha, T.e i hi, .own _, T.kit i hi 1 (by decide), .ref a, rfl, a, C i, _, _, _, rfl, ha, T.e i hi, .own _, T.kit i hi 2 (by decide), .ref a, rfl, a, C i, _, _, _, rfl, ha, T.e i hi, .own _, T.kit i hi 3 (by decide), (by show 4 ≤ sizeLine; decide), fun l1 n1 => ?_⟩
    have s1 := same_upd (o := .lst [.bl (decide (i = 0)), .bl (decide (i = 1)), .bl (decide (i = 2)), .bl (decide (i = 3))]) n1
    generalize hH1 : upd H l1 (.lst [.bl (decide (i = 0)), .bl (decide (i = 1)), .bl (decide (i = 2)), .bl (decide (i = 3))]) = H1 at s1
    have e1 : H1 l1 = some (.lst [.bl (decide (i = 0)), .bl (decide (i = 1)), .bl (decide (i = 2)), .bl (decide (i = 3))]) := by rw [← hH1]; exact upd_same
    have a1 := s1 _ _ ha
    refine ⟨.ref l1, rfl, .ref a, rfl, a, C i, _, _, _, rfl, a1, T.e i hi, .own _, T.kit i hi 4 (by decide), .ref a, rfl, a, C i, _, _, _, rfl, a1, T.e i hi, .own _, T.kit i hi 5 (by decide), .ref a, rfl, a, C i, _, _, _, rfl, a1, T.e i hi, .own _, T.kit i hi 6 (by decide), (by show 3 ≤ sizeLine; decide), fun l2 n2 => ?_⟩
    have s2 := same_upd (o := .lst [.bl (decide (i = 4)), .bl (decide (i = 5)), .bl (decide (i = 6))]) n2
    refine ⟨l1, l2, _, _, rfl, rfl, s2 _ _ e1, upd_same, (by show 7 ≤ sizeLine; decide), fun l3 n3 => ?_⟩
    have s3 := s1.trans (s2.trans (same_upd (o := .lst ([.bl (decide (i = 0)), .bl (decide (i = 1)), .bl (decide (i = 2)), .bl (decide (i = 3))] ++ [.bl (decide (i = 4)), .bl (decide (i = 5)), .bl (decide (i = 6))])) n3))
    generalize hH3 : upd (upd H1 l2 _) l3 _ = H3 at s3
    have e3 : H3 l3 = some (.lst [.bl (decide (i = 0)), .bl (decide (i = 1)), .bl (decide (i = 2)), .bl (decide (i = 3)), .bl (decide (i = 4)), .bl (decide (i = 5)), .bl (decide (i = 6))]) := by rw [← hH3]; exact upd_same
    have a3 := s3 _ _ ha
    refine ⟨.ref l3, rfl, .ref a, rfl, a, C i, _, _, _, rfl, a3, T.e i hi, .own _, T.kit i hi 7 (by decide), .ref a, rfl, a, C i, _, _, _, rfl, a3, T.e i hi, .own _, T.kit i hi 8 (by decide), .ref a, rfl, a, C i, _, _, _, rfl, a3, T.e i hi, .own _, T.kit i hi 9 (by decide), (by show 3 ≤ sizeLine; decide), fun l4 n4 => ?_⟩
    have s4 := same_upd (o := .lst [.bl (decide (i = 7)), .bl (decide (i = 8)), .bl (decide (i = 9))]) n4
    refine ⟨l3, l4, _, _, rfl, rfl, s4 _ _ e3, upd_same, (by show 10 ≤ sizeLine; decide), fun l5 n5 => ?_⟩
    have s5 := s3.trans (s4.trans (same_upd (o := .lst ([.bl (decide (i = 0)), .bl (decide (i = 1)), .bl (decide (i = 2)), .bl (decide (i = 3)), .bl (decide (i = 4)), .bl (decide (i = 5)), .bl (decide (i = 6))] ++ [.bl (decide (i = 7)), .bl (decide (i = 8)), .bl (decide (i = 9))])) n5))
    generalize hH5 : upd (upd H3 l4 _) l5 _ = H5 at s5
    have e5 : H5 l5 = some (.lst [.bl (decide (i = 0)), .bl (decide (i = 1)), .bl (decide (i = 2)), .bl (decide (i = 3)), .bl (decide (i = 4)), .bl (decide (i = 5)), .bl (decide (i = 6)), .bl (decide (i = 7)), .bl (decide (i = 8)), .bl (decide (i = 9))]) := by rw [← hH5]; exact upd_same
    have a5 := s5 _ _ ha
    refine ⟨.ref l5, rfl, .ref a, rfl, a, C i, _, _, _, rfl, a5, T.e i hi, .own _, T.kit i hi 10 (by decide), (by show 1 ≤ sizeLine; decide), fun l6 n6 => ?_⟩
    have s6 := same_upd (o := .lst [.bl (decide (i = 10))]) n6
    refine ⟨l5, l6, _, _, rfl, rfl, s6 _ _ e5, upd_same, (by show 11 ≤ sizeLine; decide), fun l7 n7 => ?_⟩
    exact q _ l7 (s5.trans (s6.trans (same_upd n7))) (s5.free (s6.free n7)) upd_same
theorem ok_rid {f : Addr} {fd : FuncData} {k : Nat} (F : Fun K "is_riddle" "is_riddle" sRid f fd) (mi : mg "isinstance" = none) (mt : mg "tuple" = none) (ml : mg "len" = none) : FnOk P w K mg base CX0 (k + 1) f fd ["thing"] spRid := by
  refine F.ok scRid (fun vs H Q E h => ?_) (fun cdv A outer s H vs Q E hr h => ?_)
  · obtain ⟨a, rfl, _⟩ := h
    rfl
  · obtain ⟨z, rfl, q⟩ := h
    refine ⟨_, pss_cons (ps_if (PW.pt (pw_or (pt_not (pt_val (pe_callB call_isi (by rfl) mi boot_isinstance (pa_cons (pv 0) (pa_cons (pe_bltn (v := .ty "tuple") (by rfl) mt (by decide +kernel) rfl) pa_nil))))) (pw_or1 (pt_cmpR op_ne (pe_callB call_len_seq (by rfl) ml PySem.boot_len (pa_cons (pv 0) pa_nil)) pe_int (nomark _)))))
        (pss_one (ps_ret pe_bl)) pss_nil)
      (pss_cons ps_never (pss_cons ps_never (pss_cons ps_never (pss_one ps_never)))), ?_⟩
    refine ⟨.str z, rfl, .str z, .ty "tuple", .type "str", .type "tuple", false, rfl, .ty _, .base (.str z), kit_ty (by decide +kernel), false, rfl, ?_⟩
    exact q
/-! ### data of truths -/
theorem dpBls {K : PySem.W.Frag} {H : Hp} : ∀ bs : List Bool, DpAll K H (bs.map V.bl) (bs.map PyData.bool)
  | [] => .nil
  | n :: r => .cons (.bl n) (dpBls r)
theorem canLayAll0_bls : ∀ ns : List Bool, PyData.canLayAll0 (ns.map PyData.bool) = true
  | [] => by simp [PyData.canLayAll0]
  | n :: r => by simp [PyData.canLayAll0, PyData.canLay0, canLayAll0_bls r]
theorem depthAll_bls : ∀ ns : List Bool, PyData.depthAll (ns.map PyData.bool) ≤ 1
  | [] => by simp [PyData.depthAll]
  | n :: r => by
    have := depthAll_bls r
    simp only [List.map_cons, PyData.depthAll, PyData.depth]
    omega
theorem shaped_bls (ns : List Bool) : SeqAt.shaped (.list (ns.map PyData.bool)) = true := by
  have h1 := depthAll_bls ns
  have h2 : PyData.depth (.list (ns.map PyData.bool)) ≤ 64 := by simp only [PyData.depth]; omega
  show (PyData.canLay0 (.list (ns.map PyData.bool)) && decide (PyData.depth (.list (ns.map PyData.bool)) ≤ 64)) = true
  rw [Bool.and_eq_true]
  exact ⟨by simp only [PyData.canLay0]; exact canLayAll0_bls ns, decide_eq_true h2⟩
theorem eqv_bls (ns : List Bool) : PyData.eqv (.list (ns.map PyData.bool)) (.list (ns.map PyData.bool)) = true := SeqAt.eqv_refl _ (Bool.and_eq_true_iff.mp (shaped_bls ns)).1
theorem sum_ones : ∀ ys : List Str, (∀ y ∈ ys, y.length = 1) → (ys.map (·.length)).sum = ys.length
  | [], _ => rfl
  | y :: r, h => by
    have ih := sum_ones r fun z hz => h z (List.mem_cons_of_mem _ hz)
    rw [List.map_cons, List.sum_cons, ih, h y List.mem_cons_self, List.length_cons]
    omega
theorem Well.same {H H' : Hp} {wl cl : Addr} (h : Well H wl cl) (s : Same H H') : Well H' wl cl := by
  obtain ⟨cs, b, c, h1, h2, hc⟩ := h
  exact ⟨cs, b, c, s _ _ h1, s _ _ h2, hc⟩
theorem kindsV_eq (i : Nat) : kindsV i = ((List.range 11).map fun j => decide (i = j)).map V.bl := by
  unfold kindsV
  rw [List.map_map]
  rfl
theorem kinds_11 : kindsV 11 = (List.replicate 11 false).map V.bl := by decide
theorem dec_at (i j : Nat) : decide (V.int (i : Int) = V.int (0 + (j : Int))) = decide (i = j) := by
  by_cases e : i = j
  · subst e
    simp
  · have : ¬ V.int (i : Int) = V.int (0 + (j : Int)) := fun z => e (by have := V.int.inj z; omega)
    rw [decide_eq_false e, decide_eq_false this]
structure Txt6 (P : Program) (w : World) (K : PySem.W.Frag) (mg : Str → Option Value) (base : Heap) (C : Nat → Addr) : Prop extends Cls6 K mg C where
  m_range : mg "range" = none
  m_enumerate : mg "enumerate" = none
  m_ValueError : mg "ValueError" = none
  c__law_well : Cal P w K mg base 1 "_law_well" ["script"] (spWell K)
  c__law_draw : Cal P w K mg base 1 "_law_draw" ["well", "many"] spDraw
  c__law_kinds : Cal P w K mg base 1 "_law_kinds" ["one"] (spKinds C)
  c_is_riddle : Cal P w K mg base 1 "is_riddle" ["thing"] spRid
def spLaw (K : PySem.W.Frag) : Sp := fun vs H Q _ => ∃ (a : Addr) (ns : List Int), vs = [.ref a] ∧ SqL K H a (ns.map V.int) ∧ ns.length ≤ 63 ∧ (∀ z ∈ ns, Builtin.Int.intBits z ≤ 1048576) ∧ ∀ H', Q (.bl true) H'
theorem ok_law {f : Addr} {fd : FuncData} (F : Fun K "law" "law" sLaw f fd) (T : Txt6 P w K mg base C) : FnOk P w K mg base CX0 2 f fd ["script"] (spLaw K) := by
  refine F.ok scLaw (fun vs H Q E h => ?_) (fun cdv A outer s H vs Q E hr1 h => ?_)
  · obtain ⟨a, ns, rfl, _⟩ := h
    rfl
  · obtain ⟨a, ns, rfl, hS, hlen, hbits, q⟩ := h
    have hr := hr1
    refine ⟨_, (pss_cons (ps_set (i := 1) scLaw.nd rfl (Or.inr rfl) (pe_cal T.c__law_well hr1 (by rfl) (pa_cons (pv 0) pa_nil)))
  (pss_cons (ps_set (i := 2) scLaw.nd rfl (Or.inl rfl) (pe_join pe_str (pe_lc (own := [("k", 6)]) rfl scLaw.nd  (pi_range1 (by rfl) T.m_range (pa_cons (pe_cal T.c__law_draw hr1 (by rfl) (pa_cons (pv 1) (pa_cons pe_int pa_nil))) pa_nil)) (blkOk_by (own := [("k", 6)]) (N := nLaw) (sc := defScope sLaw) (by decide +kernel))
   (fun _ _ _ _ _ => (pg_name (i := 6) scLaw.nd rfl (Or.inl rfl))) (fun _ _ _ _ _ => pts_nil) (fun _ _ _ _ _ => (pe_ix ix_str pe_str (pe_cal T.c__law_draw hr1 (by rfl) (pa_cons (pv 1) (pa_cons pe_int pa_nil))) (fun _ _ => rfl))))))
  (pss_cons (ps_set (i := 3) scLaw.nd rfl (Or.inl rfl) (pe_lst (pa_cons (pe_exc1 PySem.F.excBase_ValueError (T.x 0 (by decide)) T.g_NoEnd (T.k 0 (by decide)) (by rfl) (pv 2)) (pa_cons (pe_exc1 PySem.F.excBase_ValueError (T.x 1 (by decide)) T.g_NoLog (T.k 1 (by decide)) (by rfl) (pv 2)) (pa_cons (pe_exc1 PySem.F.excBase_ValueError (T.x 2 (by decide)) T.g_NoName (T.k 2 (by decide)) (by rfl) (pv 2)) (pa_cons (pe_exc1 PySem.F.excBase_ValueError (T.x 3 (by decide)) T.g_NoRow (T.k 3 (by decide)) (by rfl) (pv 2)) (pa_cons (pe_exc1 PySem.F.excBase_ValueError (T.x 4 (by decide)) T.g_NoStep (T.k 4 (by decide)) (by rfl) (pv 2)) (pa_cons (pe_exc1 PySem.F.excBase_ValueError (T.x 5 (by decide)) T.g_NoTable (T.k 5 (by decide)) (by rfl) (pv 2)) (pa_cons (pe_exc1 PySem.F.excBase_ValueError (T.x 6 (by decide)) T.g_NoText (T.k 6 (by decide)) (by rfl) (pv 2)) pa_nil)))))))))
  (pss_cons (ps_set (i := 3) scLaw.nd rfl (Or.inl rfl) (pe_op op_cat (pv 3) (pe_lst (pa_cons (pe_exc1 PySem.F.excBase_ValueError (T.x 7 (by decide)) T.g_NoWish (T.k 7 (by decide)) (by rfl) (pv 2)) (pa_cons (pe_exc1 PySem.F.excBase_ValueError (T.x 8 (by decide)) T.g_Spent (T.k 8 (by decide)) (by rfl) (pv 2)) (pa_cons (pe_exc1 PySem.F.excBase_ValueError (T.x 9 (by decide)) T.g_Told (T.k 9 (by decide)) (by rfl) (pv 2)) (pa_cons (pe_exc1 PySem.F.excBase_ValueError (T.x 10 (by decide)) T.g_TooMany (T.k 10 (by decide)) (by rfl) (pv 2)) pa_nil)))))))
  (pss_cons (ps_for PassesOwn.never rfl (pi_enum (by rfl) T.m_enumerate (pa_cons (pv 3) pa_nil)) (pg_tup rfl (pgs_cons (pg_name (i := 4) scLaw.nd rfl (Or.inr rfl)) (pgs_cons (pg_name (i := 5) scLaw.nd rfl (Or.inl rfl)) pgs_nil)))
  (pss_cons (ps_if (PW.pt (pw_or (pt_cmpR (op_neD hr.units) (pe_cal T.c__law_kinds hr1 (by rfl) (pa_cons (pv 5) pa_nil)) (pe_lc (own := [("k", 6)]) rfl scLaw.nd  (pi_range1 (by rfl) T.m_range (pa_cons pe_int pa_nil)) (blkOk_by (own := [("k", 6)]) (N := nLaw) (sc := defScope sLaw) (by decide +kernel))
   (fun _ _ _ _ _ => (pg_name (i := 6) scLaw.nd rfl (Or.inl rfl))) (fun _ _ _ _ _ => pts_nil) (fun _ _ _ _ _ => (pe_cmpR op_eq (pv 4) (pv 6) (nomark _)))) (nomark _)) (pw_or1 (pt_not (pt_val (pe_callB call_isX (by rfl) T.m_isinstance (by decide +kernel) (pa_cons (pv 5) (pa_cons (pe_gref (by rfl) T.g_DrawError) pa_nil))))))))
  (pss_one (ps_ret pe_bl)) pss_nil)
  (pss_one (ps_if (pt_not (pt_val (pe_callB call_isX (by rfl) T.m_isinstance (by decide +kernel) (pa_cons (pv 5) (pa_cons (pe_bltn (v := .ty "ValueError") (by rfl) T.m_ValueError (by decide +kernel) rfl) pa_nil)))))
  (pss_one (ps_ret pe_bl)) pss_nil))))
  (pss_cons (ps_set (i := 5) scLaw.nd rfl (Or.inl rfl) (pe_exc1 PySem.F.excBase_ValueError (T.x 11 (by decide)) T.g_DrawError (T.k 11 (by decide)) (by rfl) (pv 2)))
  (pss_one (ps_ret (pe_and (pe_callB call_isX (by rfl) T.m_isinstance (by decide +kernel) (pa_cons (pv 5) (pa_cons (pe_bltn (v := .ty "ValueError") (by rfl) T.m_ValueError (by decide +kernel) rfl) pa_nil))) (pe_and (pe_cmpR (op_eqD hr.units) (pe_cal T.c__law_kinds hr1 (by rfl) (pa_cons (pv 5) pa_nil)) (pe_op op_rep (pe_lst (pa_cons pe_bl pa_nil)) pe_int) (nomark _)) (pe_one (pe_cmpR op_isBl (pe_cal T.c_is_riddle hr1 (by rfl) (pa_cons (pv 2) pa_nil)) pe_bl (nomark _))))))))))))), ?_⟩
    refine ⟨.ref a, rfl, a, ns, rfl, hS, hlen, hbits, fun H1 wl cl sm1 nw nc hW => ?_⟩
    -- text
    refine ⟨⟨_, rfl⟩, .ref wl, rfl, wl, cl, 11, rfl, hW, by decide, by decide, fun H2 d hD2 d0 d1 => ⟨d, rfl, by omega, by omega, fun D nD => ?_⟩⟩
    have hWc := hD2.2
    obtain ⟨hwD, hcD⟩ : wl ≠ D ∧ cl ≠ D := by
      obtain ⟨cs, b, c, h1, h2, _⟩ := hD2.2
      exact ⟨ne_of_none h1 nD, ne_of_none h2 nD⟩
    refine lc_range (lo := 0) (n := d.toNat) (fun i H3 => Well H3 wl cl ∧ ∃ ys : List Str, H3 D = some (.lst (ys.map V.str)) ∧ ys.length = i ∧ ∀ y ∈ ys, y.length = 1) ⟨hWc.same (same_upd nD), [], upd_same, rfl, fun _ h => nomatch h⟩ (fun i H3 hi p => ?_) (fun H3 p => ?_)
    · obtain ⟨hW3, ys, hy1, hy2, hy3⟩ := p
      refine ⟨rfl, ?_⟩
      dsimp only [tYes]
      rw [if_pos rfl]
      refine ⟨.ref wl, rfl, wl, cl, 10, rfl, hW3, by decide, by decide, fun H4 e hD4 e0 e1 => ?_⟩
      have hj : e.toNat < (PySem.Str.ofString "az09 ~=!-;").cps.toList.length := by
        show e.toNat < 10
        omega
      have ee : e = ((e.toNat : Nat) : Int) := by omega
      have hx4 : H4 D = some (.lst (ys.map V.str)) := hD4.1 D _ hwD.symm hcD.symm hy1
      refine ⟨_, e, _, rfl, rfl, by decide, (by rw [ee]; exact atI_nat (List.getElem?_eq_getElem hj)), _, hx4, ?_, ?_, ys ++ [_], by rw [upd_same, List.map_append]; rfl, ?_, ?_⟩
      · rw [List.length_map]
        exact small1000 (by omega)
      · obtain ⟨cs, b, c, h1, h2, hc⟩ := hD4.2
        exact ⟨cs, b, c, by rw [upd_ne hwD]; exact h1, by rw [upd_ne hcD]; exact h2, hc⟩
      · rw [List.length_append, hy2]
        rfl
      · intro y hy
        rcases List.mem_append.mp hy with h | h
        · exact hy3 y h
        · rw [List.mem_singleton.mp h]
          rfl
    · obtain ⟨hW3, ys, hy1, hy2, hy3⟩ := p
      have hsum : (ys.map (·.length)).sum = ys.length := sum_ones ys hy3
      refine ⟨_, D, ys, rfl, rfl, .inl (.inl (.inl hy1)), (by
        show (ys.map (·.length)).sum + ys.length * 0 ≤ 16777216
        rw [hsum, Nat.mul_zero]
        omega), ?_⟩
      generalize Txt.join _ ys = tx
      clear hsum hy1 hy2 hy3
      refine ⟨.str tx, rfl, fun e0 n0 => ⟨.str tx, rfl, fun e1 n1 => ⟨.str tx, rfl, fun e2 n2 => ⟨.str tx, rfl, fun e3 n3 => ⟨.str tx, rfl, fun e4 n4 => ⟨.str tx, rfl, fun e5 n5 => ⟨.str tx, rfl, fun e6 n6 => ⟨(by show 7 ≤ sizeLine; decide), fun l1 m1 => ?_⟩⟩⟩⟩⟩⟩⟩⟩
      have s0 := same_upd (o := ExO (.ref (C 0)) e0) n0
      have f0 : upd H3 e0 (ExO (.ref (C 0)) e0) e0 = some (ExO (.ref (C 0)) e0) := upd_same
      generalize hG0 : upd H3 e0 (ExO (.ref (C 0)) e0) = G0 at *
      have s1 := same_upd (o := ExO (.ref (C 1)) e1) n1
      have f1 : upd G0 e1 (ExO (.ref (C 1)) e1) e1 = some (ExO (.ref (C 1)) e1) := upd_same
      generalize hG1 : upd G0 e1 (ExO (.ref (C 1)) e1) = G1 at *
      have s2 := same_upd (o := ExO (.ref (C 2)) e2) n2
      have f2 : upd G1 e2 (ExO (.ref (C 2)) e2) e2 = some (ExO (.ref (C 2)) e2) := upd_same
      generalize hG2 : upd G1 e2 (ExO (.ref (C 2)) e2) = G2 at *
      have s3 := same_upd (o := ExO (.ref (C 3)) e3) n3
      have f3 : upd G2 e3 (ExO (.ref (C 3)) e3) e3 = some (ExO (.ref (C 3)) e3) := upd_same
      generalize hG3 : upd G2 e3 (ExO (.ref (C 3)) e3) = G3 at *
      have s4 := same_upd (o := ExO (.ref (C 4)) e4) n4
      have f4 : upd G3 e4 (ExO (.ref (C 4)) e4) e4 = some (ExO (.ref (C 4)) e4) := upd_same
      generalize hG4 : upd G3 e4 (ExO (.ref (C 4)) e4) = G4 at *
      have s5 := same_upd (o := ExO (.ref (C 5)) e5) n5
      have f5 : upd G4 e5 (ExO (.ref (C 5)) e5) e5 = some (ExO (.ref (C 5)) e5) := upd_same
      generalize hG5 : upd G4 e5 (ExO (.ref (C 5)) e5) = G5 at *
      have s6 := same_upd (o := ExO (.ref (C 6)) e6) n6
      have f6 : upd G5 e6 (ExO (.ref (C 6)) e6) e6 = some (ExO (.ref (C 6)) e6) := upd_same
      generalize hG6 : upd G5 e6 (ExO (.ref (C 6)) e6) = G6 at *
      have t1 := same_upd (o := .lst [.ref e0, .ref e1, .ref e2, .ref e3, .ref e4, .ref e5, .ref e6]) m1
      have u1 : upd G6 l1 (.lst [.ref e0, .ref e1, .ref e2, .ref e3, .ref e4, .ref e5, .ref e6]) l1 = some (.lst [.ref e0, .ref e1, .ref e2, .ref e3, .ref e4, .ref e5, .ref e6]) := upd_same
      generalize hK1 : upd G6 l1 (.lst [.ref e0, .ref e1, .ref e2, .ref e3, .ref e4, .ref e5, .ref e6]) = K1 at *
      refine ⟨.ref l1, rfl, .str tx, rfl, fun e7 n7 => ⟨.str tx, rfl, fun e8 n8 => ⟨.str tx, rfl, fun e9 n9 => ⟨.str tx, rfl, fun e10 n10 => ⟨(by show 4 ≤ sizeLine; decide), fun l2 m2 => ?_⟩⟩⟩⟩⟩
      have s7 := same_upd (o := ExO (.ref (C 7)) e7) n7
      have f7 : upd K1 e7 (ExO (.ref (C 7)) e7) e7 = some (ExO (.ref (C 7)) e7) := upd_same
      generalize hG7 : upd K1 e7 (ExO (.ref (C 7)) e7) = G7 at *
      have s8 := same_upd (o := ExO (.ref (C 8)) e8) n8
      have f8 : upd G7 e8 (ExO (.ref (C 8)) e8) e8 = some (ExO (.ref (C 8)) e8) := upd_same
      generalize hG8 : upd G7 e8 (ExO (.ref (C 8)) e8) = G8 at *
      have s9 := same_upd (o := ExO (.ref (C 9)) e9) n9
      have f9 : upd G8 e9 (ExO (.ref (C 9)) e9) e9 = some (ExO (.ref (C 9)) e9) := upd_same
      generalize hG9 : upd G8 e9 (ExO (.ref (C 9)) e9) = G9 at *
      have s10 := same_upd (o := ExO (.ref (C 10)) e10) n10
      have f10 : upd G9 e10 (ExO (.ref (C 10)) e10) e10 = some (ExO (.ref (C 10)) e10) := upd_same
      generalize hG10 : upd G9 e10 (ExO (.ref (C 10)) e10) = G10 at *
      have t2 := same_upd (o := .lst [.ref e7, .ref e8, .ref e9, .ref e10]) m2
      have s7t := s7.trans (s8.trans (s9.trans (s10.trans t2)))
      refine ⟨l1, l2, _, _, rfl, rfl, s7t _ _ u1, upd_same, (by show 11 ≤ sizeLine; decide), fun l3 m3 => ?_⟩
      have t3 := t2.trans (same_upd (o := .lst [.ref e0, .ref e1, .ref e2, .ref e3, .ref e4, .ref e5, .ref e6, .ref e7, .ref e8, .ref e9, .ref e10]) m3)
      have u3 : upd (upd G10 l2 (.lst [.ref e7, .ref e8, .ref e9, .ref e10])) l3 (.lst [.ref e0, .ref e1, .ref e2, .ref e3, .ref e4, .ref e5, .ref e6, .ref e7, .ref e8, .ref e9, .ref e10]) l3 = some (.lst [.ref e0, .ref e1, .ref e2, .ref e3, .ref e4, .ref e5, .ref e6, .ref e7, .ref e8, .ref e9, .ref e10]) := upd_same
      generalize hKs : upd (upd G10 l2 (.lst [.ref e7, .ref e8, .ref e9, .ref e10])) l3 (.lst ([.ref e0, .ref e1, .ref e2, .ref e3, .ref e4, .ref e5, .ref e6] ++ [.ref e7, .ref e8, .ref e9, .ref e10])) = Ks
      replace u3 : Ks l3 = some (.lst [.ref e0, .ref e1, .ref e2, .ref e3, .ref e4, .ref e5, .ref e6, .ref e7, .ref e8, .ref e9, .ref e10]) := by rw [← hKs]; exact u3
      replace t3 : Same G10 Ks := by rw [← hKs]; exact t3
      have z0 : Ks e0 = some (ExO (.ref (C 0)) e0) := (t3 _ _ (s10 _ _ (s9 _ _ (s8 _ _ (s7 _ _ (t1 _ _ (s6 _ _ (s5 _ _ (s4 _ _ (s3 _ _ (s2 _ _ (s1 _ _ f0))))))))))))
      have z1 : Ks e1 = some (ExO (.ref (C 1)) e1) := (t3 _ _ (s10 _ _ (s9 _ _ (s8 _ _ (s7 _ _ (t1 _ _ (s6 _ _ (s5 _ _ (s4 _ _ (s3 _ _ (s2 _ _ f1)))))))))))
      have z2 : Ks e2 = some (ExO (.ref (C 2)) e2) := (t3 _ _ (s10 _ _ (s9 _ _ (s8 _ _ (s7 _ _ (t1 _ _ (s6 _ _ (s5 _ _ (s4 _ _ (s3 _ _ f2))))))))))
      have z3 : Ks e3 = some (ExO (.ref (C 3)) e3) := (t3 _ _ (s10 _ _ (s9 _ _ (s8 _ _ (s7 _ _ (t1 _ _ (s6 _ _ (s5 _ _ (s4 _ _ f3)))))))))
      have z4 : Ks e4 = some (ExO (.ref (C 4)) e4) := (t3 _ _ (s10 _ _ (s9 _ _ (s8 _ _ (s7 _ _ (t1 _ _ (s6 _ _ (s5 _ _ f4))))))))
      have z5 : Ks e5 = some (ExO (.ref (C 5)) e5) := (t3 _ _ (s10 _ _ (s9 _ _ (s8 _ _ (s7 _ _ (t1 _ _ (s6 _ _ f5)))))))
      have z6 : Ks e6 = some (ExO (.ref (C 6)) e6) := (t3 _ _ (s10 _ _ (s9 _ _ (s8 _ _ (s7 _ _ (t1 _ _ f6))))))
      have z7 : Ks e7 = some (ExO (.ref (C 7)) e7) := (t3 _ _ (s10 _ _ (s9 _ _ (s8 _ _ f7))))
      have z8 : Ks e8 = some (ExO (.ref (C 8)) e8) := (t3 _ _ (s10 _ _ (s9 _ _ f8)))
      have z9 : Ks e9 = some (ExO (.ref (C 9)) e9) := (t3 _ _ (s10 _ _ f9))
      have z10 : Ks e10 = some (ExO (.ref (C 10)) e10) := (t3 _ _ f10)
      have hall : ∀ j, j < 11 → ∃ x, ([.ref e0, .ref e1, .ref e2, .ref e3, .ref e4, .ref e5, .ref e6, .ref e7, .ref e8, .ref e9, .ref e10] : List V)[j]? = some (.ref x) ∧ Ks x = some (ExO (.ref (C j)) x) := fun j hj => match j, hj with
        | 0, _ => ⟨e0, rfl, z0⟩
        | 1, _ => ⟨e1, rfl, z1⟩
        | 2, _ => ⟨e2, rfl, z2⟩
        | 3, _ => ⟨e3, rfl, z3⟩
        | 4, _ => ⟨e4, rfl, z4⟩
        | 5, _ => ⟨e5, rfl, z5⟩
        | 6, _ => ⟨e6, rfl, z6⟩
        | 7, _ => ⟨e7, rfl, z7⟩
        | 8, _ => ⟨e8, rfl, z8⟩
        | 9, _ => ⟨e9, rfl, z9⟩
        | 10, _ => ⟨e10, rfl, z10⟩
        | n + 11, h => absurd h (by omega)
      clear z0 f0 s0 z1 f1 s1 z2 f2 s2 z3 f3 s3 z4 f4 s4 z5 f5 s5 z6 f6 s6 z7 f7 s7 z8 f8 s8 z9 f9 s9 z10 f10 s10 t1 t2 s7t
      generalize hls : ([.ref e0, .ref e1, .ref e2, .ref e3, .ref e4, .ref e5, .ref e6, .ref e7, .ref e8, .ref e9, .ref e10] : List V) = ls at u3 hall
      have hl11 : ls.length = 11 := by rw [← hls]; rfl
      refine ⟨.ref l3, rfl, l3, ls, rfl, .inl (.inl u3), fun i m σ H5 => ∃ y4 y5, σ = [some (.ref a), some (.ref wl), some (.str tx), some (.ref l3), y4, y5, none] ∧ i + m = 11 ∧ Same Ks H5, ⟨11, none, none, rfl, rfl, Same.refl _⟩, fun i m σ H5 hW => ?_⟩
      obtain ⟨y4, y5, rfl, em, sm⟩ := hW
      by_cases hi : i < 11
      · obtain ⟨x, hx, zx⟩ := hall i hi
        have hA : SqL K H5 l3 ls := .inl (.inl (sm _ _ u3))
        refine .inr ⟨⟨ls, .ref x, hA, hx⟩, fun σ' H' => ∃ y4 y5, σ' = [some (.ref a), some (.ref wl), some (.str tx), some (.ref l3), y4, y5, none] ∧ Same Ks H', fun σ' H' hN => ?_, fun v H' hy => ?_⟩
        · obtain ⟨z4, z5, e, sm'⟩ := hN
          exact ⟨m - 1, by omega, z4, z5, e, by omega, sm'⟩
        · obtain ⟨Tt, x', rfl, nT, rfl, fv⟩ := hy
          obtain rfl : x' = .ref x := Option.some.inj ((fv _ hA).symm.trans hx)
          refine ⟨Tt, [.int i, .ref x], rfl, .inl (.inl upd_same), rfl, .int i, [.ref x], rfl, .ref x, [], rfl, rfl, ?_⟩
          have s6 : Same Ks (upd H5 Tt (.tup [.int i, .ref x])) := sm.trans (same_upd nT)
          generalize hH6 : upd H5 Tt (.tup [.int i, .ref x]) = H6 at s6
          have hx6 := s6 _ _ zx
          refine ⟨.ref x, rfl, x, i, rfl, by omega, hx6, fun H7 p s7 np ep => ⟨11, rfl, by decide, by decide, fun D nD => lc_range (lo := 0) (n := 11) (fun j H8 => Same H7 H8 ∧ H8 D = some (.lst (((List.range j).map fun j => decide (i = j)).map V.bl))) ⟨same_upd nD, upd_same⟩ (fun j H8 hj pp => ?_) (fun H8 pp => ?_)⟩⟩
          · refine ⟨rfl, ?_⟩
            dsimp only [tYes]
            rw [if_pos rfl]
            refine ⟨.int i, rfl, .int (0 + j), rfl, rfl, _, pp.2, ?_, ?_, ?_⟩
            · rw [List.length_map, List.length_map, List.length_range]
              exact small1000 (by omega)
            · intro b o e
              rw [upd_ne (ne_of_none e nD)]
              exact pp.1 b o e
            · rw [upd_same, List.range_succ, List.map_append, List.map_append, dec_at]
              rfl
          · rw [kindsV_eq] at ep
            refine ⟨_, _, .lst (.inl (.inl (pp.1 _ _ ep))) (dpBls _), .lst (.inl (.inl pp.2)) (dpBls _), shaped_bls _, shaped_bls _, _, rfl, ?_⟩
            rw [eqv_bls]
            have hx8 := pp.1 _ _ (s7 _ _ hx6)
            have s8 := s6.trans (s7.trans pp.1)
            refine iteF ?_
            refine ⟨.ref x, rfl, x, C i, _, _, _, rfl, hx8, T.e i (by omega), .own _, T.kitD i (by omega), true, rfl, ?_⟩
            refine iteF ?_
            refine ⟨.ref x, rfl, x, C i, .ty "ValueError", .type "ValueError", true, rfl, hx8, T.e i (by omega), .ty _, T.kitV i (by omega), true, rfl, ?_⟩
            refine iteF ?_
            exact ⟨_, _, rfl, s8⟩
      · refine .inl ⟨⟨ls, .inl (.inl (sm _ _ u3)), by omega⟩, ?_⟩
        refine ⟨.str tx, rfl, fun e n => ?_⟩
        refine ⟨.ref e, rfl, e, C 11, .ty "ValueError", .type "ValueError", true, rfl, upd_same, T.e 11 (by decide), .ty _, T.kitV 11 (by decide), true, rfl, ?_⟩
        refine (if_pos rfl).mpr ?_
        refine ⟨.ref e, rfl, e, 11, rfl, by decide, upd_same, fun H7 p s7 np ep => ⟨(by show 1 ≤ sizeLine; decide), fun l nl => ?_⟩⟩
        rw [kinds_11] at ep
        refine ⟨l, 11, _, rfl, rfl, upd_same, by decide, by decide, (by show 1 * 11 ≤ sizeLine; decide), fun p2 n2 => ?_⟩
        have s8 := (same_upd (o := .lst [.bl false]) nl).trans (same_upd (o := .lst ((List.replicate (11 : Int).toNat [V.bl false]).flatten)) n2)
        refine ⟨_, .list ((List.replicate 11 false).map PyData.bool), .lst (.inl (.inl (s8 _ _ ep))) (dpBls _), .lst (.inl (.inl upd_same)) (dpBls (List.replicate 11 false)), shaped_bls _, shaped_bls _, true, by rw [eqv_bls], ?_⟩
        refine (if_pos rfl).mpr ?_
        exact ⟨.str tx, rfl, tx, rfl, false, false, rfl, rfl, q _⟩
end
end Rd

set_option Elab.async false
set_option linter.all false
set_option maxRecDepth 100000
set_option maxHeartbeats 4000000
namespace Rd
open PySem PySem.Spec PyProof.Rows L2
def okC (K : PySem.W.Frag) (D : Addr) : Bool :=
  PySem.W.excIn K D [.type "ValueError", .type "Exception", .type "BaseException", .type "object"] "ValueError.__new__" && PySem.W.keepIn K (.ref D) &&
  (PySem.W.findIn K (.ref D) "__getattribute__" == some (some (.builtin "BaseException.__getattribute__"))) && (PySem.W.findIn K (.ref D) "__getattr__" == some none) &&
  (PySem.W.subIn K (.ref D) (.type "BaseException") == some true) && PySem.W.hasDictIn K D && (PySem.W.findIn K (.ref D) "__class__" == some (some (.builtin "object.__class__"))) &&
  (PySem.W.mroIn K D (.type "object") == some true)
def allOk (K : PySem.W.Frag) (cs : List Addr) : Bool :=
  (List.range 12).all (fun i => okC K (cs.getD i 0)) && (PySem.W.specialIn K (.builtin "object.__class__") "__get__" == some (some (.builtin "getset_descriptor.__get__"))) && (PySem.W.takesIn K (.builtin "object.__class__") == some true) &&
  (List.range 12).all (fun i => (List.range 11).all fun j => PySem.W.kitOne K (.ref (cs.getD i 0)) (.ref (cs.getD j 0)) == some (decide (i = j))) &&
  (List.range 12).all (fun i => (PySem.W.kitOne K (.ref (cs.getD i 0)) (.ref (cs.getD 11 0)) == some true) && (PySem.W.kitOne K (.ref (cs.getD i 0)) (.type "ValueError") == some true))
theorem cls_of {K : PySem.W.Frag} {h : Heap} {mg : Str → Option Value} {q0 q1 q2 q3 q4 q5 q6 q7 q8 q9 q10 q11 : Addr} (X : K.In h) (G : h.Ns mainGlobals mg)
    (cl0 : PySem.W.nsIn K mainGlobals "NoEnd" = some (some (.ref q0)))
    (cl1 : PySem.W.nsIn K mainGlobals "NoLog" = some (some (.ref q1)))
    (cl2 : PySem.W.nsIn K mainGlobals "NoName" = some (some (.ref q2)))
    (cl3 : PySem.W.nsIn K mainGlobals "NoRow" = some (some (.ref q3)))
    (cl4 : PySem.W.nsIn K mainGlobals "NoStep" = some (some (.ref q4)))
    (cl5 : PySem.W.nsIn K mainGlobals "NoTable" = some (some (.ref q5)))
    (cl6 : PySem.W.nsIn K mainGlobals "NoText" = some (some (.ref q6)))
    (cl7 : PySem.W.nsIn K mainGlobals "NoWish" = some (some (.ref q7)))
    (cl8 : PySem.W.nsIn K mainGlobals "Spent" = some (some (.ref q8)))
    (cl9 : PySem.W.nsIn K mainGlobals "Told" = some (some (.ref q9)))
    (cl10 : PySem.W.nsIn K mainGlobals "TooMany" = some (some (.ref q10)))
    (cl11 : PySem.W.nsIn K mainGlobals "DrawError" = some (some (.ref q11)))
    (zi : mg "isinstance" = none) (hA : allOk K [q0, q1, q2, q3, q4, q5, q6, q7, q8, q9, q10, q11] = true) : Cls6 K mg (fun i => [q0, q1, q2, q3, q4, q5, q6, q7, q8, q9, q10, q11].getD i 0) := by
  unfold allOk at hA
  simp only [Bool.and_eq_true, List.all_eq_true, List.mem_range, beq_iff_eq] at hA
  obtain ⟨⟨⟨⟨h1, h2⟩, h3⟩, h4⟩, h5⟩ := hA
  have ho : ∀ i, i < 12 → _ := fun i hi => by
    have z := h1 i hi
    unfold okC at z
    simp only [Bool.and_eq_true, beq_iff_eq] at z
    exact z
  exact { g_NoEnd := PySem.W.mg_of X G cl0, g_NoLog := PySem.W.mg_of X G cl1, g_NoName := PySem.W.mg_of X G cl2, g_NoRow := PySem.W.mg_of X G cl3, g_NoStep := PySem.W.mg_of X G cl4, g_NoTable := PySem.W.mg_of X G cl5, g_NoText := PySem.W.mg_of X G cl6, g_NoWish := PySem.W.mg_of X G cl7, g_Spent := PySem.W.mg_of X G cl8, g_Told := PySem.W.mg_of X G cl9, g_TooMany := PySem.W.mg_of X G cl10, g_DrawError := PySem.W.mg_of X G cl11, m_isinstance := zi, x := fun i hi => (ho i hi).1.1.1.1.1.1.1, k := fun i hi => (ho i hi).1.1.1.1.1.1.2, e := fun i hi => ⟨(ho i hi).1.1.1.1.1.2, (ho i hi).1.1.1.1.2, (ho i hi).1.1.1.2, (ho i hi).1.1.2, (ho i hi).1.2, h2, h3, (ho i hi).2⟩, kit := fun i hi j hj => h4 i hi j hj, kitD := fun i hi => (h5 i hi).1, kitV := fun i hi => (h5 i hi).2 }
theorem all_mk {l : PySem.W.OpenLaw} {w : World} {K : PySem.W.Frag} {h : Heap} {mg : Str → Option Value} {fa : Addr} (X : K.In h) (G : h.Ns mainGlobals mg) (hfa : mg "law" = some (.ref fa))
    {f1 f2 f3 f4 f5 : Addr} {od1 an1 od2 an2 od3 an3 od4 an4 od5 an5 : Option Addr} {sl1 sl2 sl3 sl4 sl5 : Array (Option Value)} {oc1 kV1 dc1 pm1 cd1 ct1 oc2 kV2 dc2 pm2 cd2 ct2 oc3 kV3 dc3 pm3 cd3 ct3 oc4 kV4 dc4 pm4 cd4 ct4 oc5 kV5 dc5 pm5 cd5 ct5 : Value} {q0 q1 q2 q3 q4 q5 q6 q7 q8 q9 q10 q11 : Addr}
    (a1 : PySem.W.nsIn K mainGlobals "_law_well" = some (some (.ref f1))) (l1 : K.lookup f1 = some ⟨oc1, od1, .func (PySem.W.fnOf "_law_well" "_law_well" (defArgs sWell) (defBody sWell) (defScope sWell) .none kV1 dc1 pm1 an1 cd1 ct1), sl1⟩) (c1 : PySem.W.codeIn K cd1 "_law_well" = true) (k1 : PySem.W.keepIn K (.ref f1) = true)
    (a2 : PySem.W.nsIn K mainGlobals "_law_draw" = some (some (.ref f2))) (l2 : K.lookup f2 = some ⟨oc2, od2, .func (PySem.W.fnOf "_law_draw" "_law_draw" (defArgs sDraw) (defBody sDraw) (defScope sDraw) .none kV2 dc2 pm2 an2 cd2 ct2), sl2⟩) (c2 : PySem.W.codeIn K cd2 "_law_draw" = true) (k2 : PySem.W.keepIn K (.ref f2) = true)
    (a3 : PySem.W.nsIn K mainGlobals "_law_kinds" = some (some (.ref f3))) (l3 : K.lookup f3 = some ⟨oc3, od3, .func (PySem.W.fnOf "_law_kinds" "_law_kinds" (defArgs sKinds) (defBody sKinds) (defScope sKinds) .none kV3 dc3 pm3 an3 cd3 ct3), sl3⟩) (c3 : PySem.W.codeIn K cd3 "_law_kinds" = true) (k3 : PySem.W.keepIn K (.ref f3) = true)
    (a4 : PySem.W.nsIn K mainGlobals "is_riddle" = some (some (.ref f4))) (l4 : K.lookup f4 = some ⟨oc4, od4, .func (PySem.W.fnOf "is_riddle" "is_riddle" (defArgs sRid) (defBody sRid) (defScope sRid) .none kV4 dc4 pm4 an4 cd4 ct4), sl4⟩) (c4 : PySem.W.codeIn K cd4 "is_riddle" = true) (k4 : PySem.W.keepIn K (.ref f4) = true)
    (a5 : PySem.W.nsIn K mainGlobals "law" = some (some (.ref f5))) (l5 : K.lookup f5 = some ⟨oc5, od5, .func (PySem.W.fnOf "law" "law" (defArgs sLaw) (defBody sLaw) (defScope sLaw) .none kV5 dc5 pm5 an5 cd5 ct5), sl5⟩) (c5 : PySem.W.codeIn K cd5 "law" = true) (k5 : PySem.W.keepIn K (.ref f5) = true)
    (z_abs : PySem.W.nsIn K mainGlobals "abs" = some none)
    (z_range : PySem.W.nsIn K mainGlobals "range" = some none)
    (z_enumerate : PySem.W.nsIn K mainGlobals "enumerate" = some none)
    (z_ValueError : PySem.W.nsIn K mainGlobals "ValueError" = some none)
    (z_isinstance : PySem.W.nsIn K mainGlobals "isinstance" = some none)
    (z_tuple : PySem.W.nsIn K mainGlobals "tuple" = some none)
    (z_len : PySem.W.nsIn K mainGlobals "len" = some none)
    (cl0 : PySem.W.nsIn K mainGlobals "NoEnd" = some (some (.ref q0)))
    (cl1 : PySem.W.nsIn K mainGlobals "NoLog" = some (some (.ref q1)))
    (cl2 : PySem.W.nsIn K mainGlobals "NoName" = some (some (.ref q2)))
    (cl3 : PySem.W.nsIn K mainGlobals "NoRow" = some (some (.ref q3)))
    (cl4 : PySem.W.nsIn K mainGlobals "NoStep" = some (some (.ref q4)))
    (cl5 : PySem.W.nsIn K mainGlobals "NoTable" = some (some (.ref q5)))
    (cl6 : PySem.W.nsIn K mainGlobals "NoText" = some (some (.ref q6)))
    (cl7 : PySem.W.nsIn K mainGlobals "NoWish" = some (some (.ref q7)))
    (cl8 : PySem.W.nsIn K mainGlobals "Spent" = some (some (.ref q8)))
    (cl9 : PySem.W.nsIn K mainGlobals "Told" = some (some (.ref q9)))
    (cl10 : PySem.W.nsIn K mainGlobals "TooMany" = some (some (.ref q10)))
    (cl11 : PySem.W.nsIn K mainGlobals "DrawError" = some (some (.ref q11)))
    (hA : allOk K [q0, q1, q2, q3, q4, q5, q6, q7, q8, q9, q10, q11] = true) :
    ∃ fd : FuncData, (∀ (s : Shared) (v : Value), BindsTo s fd ⟨[v], []⟩ [("script", v)]) ∧ ∀ base : Heap, K.In base → base.Ns mainGlobals mg → FnOk l.prog w K mg base CX0 2 fa fd ["script"] (spLaw K) := by
  have e := hfa.symm.trans (PySem.W.mg_of X G a5)
  cases e
  have F1 := fun_mk (st := sWell) l1 c1 k1
  have F2 := fun_mk (st := sDraw) l2 c2 k2
  have F3 := fun_mk (st := sKinds) l3 c3 k3
  have F4 := fun_mk (st := sRid) l4 c4 k4
  have F5 := fun_mk (st := sLaw) l5 c5 k5
  have b1 := F1.binds (ps := ["script"]) fun _ _ _ _ _ _ us hl => match us, hl with | [_], _ => rfl
  have b2 := F2.binds (ps := ["well", "many"]) fun _ _ _ _ _ _ us hl => match us, hl with | [_, _], _ => rfl
  have b3 := F3.binds (ps := ["one"]) fun _ _ _ _ _ _ us hl => match us, hl with | [_], _ => rfl
  have b4 := F4.binds (ps := ["thing"]) fun _ _ _ _ _ _ us hl => match us, hl with | [_], _ => rfl
  have C := cls_of X G cl0 cl1 cl2 cl3 cl4 cl5 cl6 cl7 cl8 cl9 cl10 cl11 (PySem.W.mg_none_of X G z_isinstance) hA
  exact ⟨PySem.W.fnOf "law" "law" (defArgs sLaw) (defBody sLaw) (defScope sLaw) .none kV5 dc5 pm5 an5 cd5 ct5, fun s v => .of_eq rfl, fun base _ _ => ok_law (C := fun i => [q0, q1, q2, q3, q4, q5, q6, q7, q8, q9, q10, q11].getD i 0) F5 { toCls6 := C, m_range := PySem.W.mg_none_of X G z_range, m_enumerate := PySem.W.mg_none_of X G z_enumerate, m_ValueError := PySem.W.mg_none_of X G z_ValueError, c__law_well := ⟨_, _, ok_well F1 (PySem.W.mg_none_of X G z_abs), PySem.W.mg_of X G a1, k1, b1⟩, c__law_draw := ⟨_, _, ok_draw F2, PySem.W.mg_of X G a2, k2, b2⟩, c__law_kinds := ⟨_, _, ok_kinds F3 C, PySem.W.mg_of X G a3, k3, b3⟩, c_is_riddle := ⟨_, _, ok_rid F4 (PySem.W.mg_none_of X G z_isinstance) (PySem.W.mg_none_of X G z_tuple) (PySem.W.mg_none_of X G z_len), PySem.W.mg_of X G a4, k4, b4⟩ }⟩
end Rd
open PySem PySem.W PyProof.Rows
set_option maxHeartbeats 0 in
theorem PySem.Challenge.cw_redraw_k06_refusals_made_holds : PySem.Challenge.rw_redraw_k06_refusals_made.Holds := by
  w_on; o_law; k_head; (case hw => w_witness2)
  k_fill
  refine L2.walk_ofB (l := PySem.Challenge.rw_redraw_k06_refusals_made) (n := 63) (k := 2) (x := "script") (CX := fun _ => L2.CX0) (sp := fun w => Rd.spLaw _) rfl (by decide) rfl ⟨rfl, by decide, by decide⟩ (fun w h Y => PySem.W.kIn_of Y) ?F (fun _ _ a ns hl hb _ hS => ⟨a, ns, rfl, hS, hl, hb, fun _ => rfl⟩) (fun _ _ _ _ _ h => h)
  case F =>
    intro w mg fa h KX G hmg
    refine' Rd.all_mk KX G hmg ?a1 ?l1 ?c1 ?k1 ?a2 ?l2 ?c2 ?k2 ?a3 ?l3 ?c3 ?k3 ?a4 ?l4 ?c4 ?k4 ?a5 ?l5 ?c5 ?k5 ?z_abs ?z_range ?z_enumerate ?z_ValueError ?z_isinstance ?z_tuple ?z_len ?cl0 ?cl1 ?cl2 ?cl3 ?cl4 ?cl5 ?cl6 ?cl7 ?cl8 ?cl9 ?cl10 ?cl11 ?hA
    (case a1 => k_is); (case l1 => k_is); (case c1 => k_is); (case k1 => k_is); (case a2 => k_is); (case l2 => k_is); (case c2 => k_is); (case k2 => k_is); (case a3 => k_is); (case l3 => k_is); (case c3 => k_is); (case k3 => k_is); (case a4 => k_is); (case l4 => k_is); (case c4 => k_is); (case k4 => k_is); (case a5 => k_is); (case l5 => k_is); (case c5 => k_is); (case k5 => k_is); (case z_abs => k_is); (case z_range => k_is); (case z_enumerate => k_is); (case z_ValueError => k_is); (case z_isinstance => k_is); (case z_tuple => k_is); (case z_len => k_is); (case cl0 => k_is); (case cl1 => k_is); (case cl2 => k_is); (case cl3 => k_is); (case cl4 => k_is); (case cl5 => k_is); (case cl6 => k_is); (case cl7 => k_is); (case cl8 => k_is); (case cl9 => k_is); (case cl10 => k_is); (case cl11 => k_is)
    (case hA => kernel_rfl)
