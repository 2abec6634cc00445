import PyProof.Rows.All
import Wide.All
import OpenK.AllK
import Wide.FinOn
import HandS.ForMost
import HandS.AnyAll
import PyProof.TupleOfGen
import PyProof.WalksMore
import HandS.Zip
import KE.GoesEnum
import HandS.Deep
import PyProof.Rows.RegFStrParts
import HandS.SortInts
import HandS.TupSets
import HandS.EndBits
import KE.KNest
import KE.DatumIndex
import HandS.Wide
import HandS.Codes
import PySem.Challenge.RW_redraw_k03_counts_and_clashes
import HandS.Conv
import HandS.TupAny
set_option Elab.async false
set_option linter.all false
set_option maxRecDepth 100000
set_option maxHeartbeats 4000000
/-! generator expressions over a list or a tuple whose element keeps the heap: tuple(..), all(..), any(..) -/
namespace Gv
open PySem PySem.Spec PyProof.Rows L2
/-- a list or a tuple of these -/
def Sq (K : PySem.W.Frag) (H : Hp) (a : Addr) (xs : List V) : Prop := SqL K H a xs ∨ SqT K H a xs
section
variable {X : Cx} {pins : List (Addr × Obj)} {σ : L2.St} {H : Hp} {s : Shared}
/-- iter(a): its items, and a walk over them that writes its own new cell alone -/
theorem iter_sq {a : Addr} {xs : List V} (I : Inv X pins σ H s) (h : Sq X.K H a xs) :
    ∃ its : List Value, Vals xs its ∧ xs.length ≤ sizeLine ∧ a < s.heap.objs.size ∧ ∀ (Q : Value → Shared → Prop) (E : Value → Shared → Prop),
      (∀ (o : Obj) (St : Nat → Heap → Prop), (∀ A' : Around, A'.handled = none → Walks X.prog X.w A' s.heap.objs.size [s.heap.objs.size, a] [s.heap.objs.size] its.length (fun i v => its[i]? = some v) St) → St 0 (s.heap.push o) →
        Q (.ref s.heap.objs.size) { s with heap := s.heap.push o }) → wpAny (model X.prog X.w) X.A (pyIter (.ref a)) Q E s := by
  rcases h with h | h
  · obtain ⟨its, rv, pl, hz⟩ := I.list h
    have hL := pl.isList
    have hlt : a < s.heap.objs.size := let ⟨_, e, _⟩ := hL; Heap.lt_size e
    refine ⟨its, rv, hz, hlt, fun Q E k => wpAny_pyIter_list hL (k _ (fun i h => h.IsListIter s.heap.objs.size a i ∧ h.IsList a its.toArray) (fun A' hA => ?_) ⟨⟨_, Heap.get?_push_size _ rfl, rfl, rfl⟩, ?_⟩)⟩
    · have W := Walks.list (prog := X.prog) (w := X.w) hA s.heap.objs.size a (Nat.ne_of_lt hlt) its.toArray
      simpa using W
    · obtain ⟨o, e, r⟩ := hL
      exact ⟨o, Heap.get?_push_of_some _ e, r⟩
  · obtain ⟨its, rv, pl, hz⟩ := I.tuple h
    have hlt : a < s.heap.objs.size := pl.lt
    refine ⟨its, rv, hz, hlt, fun Q E k => wpAny_pyIter_tuple (show s.heap.IsTuple a its.toArray from pl) (k _ (fun i h => h.IsTupleIter s.heap.objs.size a i ∧ h.IsTuple a its.toArray) (fun A' hA => ?_) ⟨⟨_, Heap.get?_push_size _ rfl, rfl, rfl⟩, ?_⟩)⟩
    · have W := Walks.tuple (prog := X.prog) (w := X.w) hA s.heap.objs.size a (Nat.ne_of_lt hlt) its.toArray
      simpa using W
    · exact pl.push _
/-- the element, of the item x0 the value y0, with all that stood kept -/
def EltV (X : Cx) (pins : List (Addr × Obj)) (σ : L2.St) (scope : Scope) (x : Str) (elt : Expr) (P : Addr) (H1 : Hp) (xs ys : List V) : Prop :=
  ∀ (s1 t : Shared) (C : Addr) (code : Value) (bi : Addr) (A' : Around) (E' : Value → Shared → Prop) (i : Nat) (x0 : V) (u : Value) (m : Str → Option Value),
    Inv X pins σ H1 s1 → A'.handled = none → A'.units ≤ X.A.units + 8 → xs[i]? = some x0 → RelV x0 u → t.heap.Ns C m → m x = some u → (∀ b o, b ≠ P → s1.heap.get? b = some o → t.heap.get? b = some o) →
    wpAny (model X.prog X.w) A' (eval elt (genEnv scope (cloFrom X.env.cells scope.names []) C code bi X.env)) (fun y t' => (∃ y0, ys[i]? = some y0 ∧ RelV y0 y) ∧ Keeps t t') E' t
/-- the generator at g, about to give out the values ys -/
def Ready (X : Cx) (pins : List (Addr × Obj)) (σ : L2.St) (H1 : Hp) (P : Addr) (ys : List V) (g : Addr) (s5 : Shared) : Prop :=
  ∃ (fp wr : List Addr) (G : Array GenState → Array GenState → Prop) (F : Nat → Value → Prop) (St : Nat → Shared → Prop),
    WalksS X.prog X.w X.A.in4 g fp wr G ys.length F St ∧ St 0 s5 ∧ (∀ b ∈ fp, b < s5.heap.objs.size) ∧ g ∈ fp ∧ (∀ i s9, St i s9 → s9.TypeIs (.ref g) "generator") ∧
    (∀ j v, F j v → ∃ y, ys[j]? = some y ∧ RelV y v) ∧ ∀ s', Moved wr G s5 s' → ∃ H2, GxR.Tabbed P H1 H2 ∧ Inv X pins σ H2 s'
theorem gen_sq {c P : Addr} {elt iter : Expr} {x : Str} {px gpos : Pos} {scope : Scope} {te : TE} {k : Nat} {Q' : Value → Shared → Prop} {R : List V → Hp → Prop}
    (hr : Room k X.A) (TB : GxR.TabB X.base X.mg c P) (hcode : X.env.code = .ref c) (S : GxR.GenS X.env scope x) (hi : PE X iter te) (hs : ∀ v, genFold iter X.env v = pure v) (I : Inv X pins σ H s)
    (h : te σ H fun v H1 => ∃ (a : Addr) (xs ys : List V), v = .ref a ∧ Sq X.K H1 a xs ∧ ys.length = xs.length ∧ (∀ pins, EltV X pins σ scope x elt P H1 xs ys) ∧ GxR.TabG H1 P ∧ R ys H1)
    (hQ : ∀ ys H1 g s5, ys.length ≤ sizeLine → R ys H1 → Ready X pins σ H1 P ys g s5 → Q' (.ref g) s5) :
    wpAny (model X.prog X.w) X.A (eval (.GeneratorExp elt [⟨.Name x px, iter, [], 0⟩] scope gpos) X.env) Q' X.xe s := by
  refine wpAny_GeneratorExp_walksQD hr.hd S.co (closure_ok S.free) S.cell S.dot S.loc S.kind (by have := hr.dp; omega) (thn (hi.run pins s σ H _ I h) fun xv s1 ⟨v, H1, I1, r1, q1⟩ => ?_) hs
  obtain ⟨a, xs, ys, rfl, hsq, hyl, hel, ⟨ps, hP, ht⟩, q1⟩ := q1
  cases (show xv = Value.ref a from r1)
  obtain ⟨its, rv, hz, hlt, go⟩ := iter_sq I1 hsq
  refine go _ _ fun o St W st0 => ⟨I1.nolimit.push o, ?_⟩
  have tabS : s1.heap.get? P = some { cls := .none, data := .fields ps } := I1.hok P _ hP
  have ltP : P < s1.heap.objs.size := Heap.lt_size tabS
  have tab2 : (s1.heap.push o).get? P = some { cls := .none, data := .fields ps } := Heap.get?_push_of_some _ tabS
  have hd : PySem.W.CodeHd (s1.heap.push o) c P := TB.code.keeps fun b u e => Heap.get?_push_of_some _ (I1.bk b u e)
  have neI : s1.heap.objs.size ≠ P := fun z => Nat.lt_irrefl _ (z ▸ ltP)
  -- the code object of the expression, its table perhaps longer behind it
  have key : ∀ (REST : Value → Shared → Prop), (∀ (cv : Value) (h3 : Heap) (tk : Nat) (more : Array Value), Heap.ExtBut P (s1.heap.push o) h3 → (s1.heap.push o).objs.size ≤ h3.objs.size → h3.get? P = some { cls := .none, data := .fields (ps ++ more) } → TriplesOk (ps ++ more).toList → REST cv { s1 with heap := h3, toks := tk }) →
      wpAny (model X.prog X.w) X.A (genexprCode X.env gpos (X.env.qual ++ "<genexpr>") scope) REST X.xe { s1 with heap := s1.heap.push o } := fun REST fin => by
    cases hf : codeAmong gpos ps.toList with
    | some cv =>
      have e : ps = ps ++ #[] := by simp
      exact wpAny_genexprCode_hit hcode (hd.code tab2 ht) hf (fin cv _ s1.toks #[] (Heap.ExtBut.refl _ _) (Nat.le_refl _) (e ▸ tab2) (e ▸ ht))
    | none =>
      refine wpAny_genexprCodeX hcode (hd.code tab2 ht) (hd.tab tab2) hf fun c' h3 tk ex ge lt ic _ ta _ => ?_
      obtain ⟨_, _, _, _, _, _, _, _, _, _, _, _, _, _, _, _, _, _, _, tr, _⟩ := ic
      exact fin _ h3 tk _ ex (Nat.le_trans ge (Nat.le_of_lt lt)) ta.2 tr
  refine key _ fun cv h3 tk more ex ge tab3 tr3 => ?_
  obtain ⟨bm, ob, b1, b2, b3, b4, b5, b6, b7, b8⟩ := TB.bm
  have up : ∀ b u, b ≠ P → s1.heap.get? b = some u → h3.get? b = some u := fun b u n e => ex b u n (Heap.get?_push_of_some _ e)
  have sz : s1.heap.objs.size + 1 ≤ h3.objs.size := by rw [← Heap.size_push s1.heap o]; exact ge
  have nlS : cStatics ≠ P ∧ cStatics < s1.heap.objs.size := by
    obtain ⟨_, ns, _⟩ := I1.nolimit
    refine ⟨fun z => ?_, ns.lt⟩
    obtain ⟨o', es, ep, ho, hdd, _⟩ := ns
    rw [z, tabS] at ho
    cases ho
    cases hdd
  refine wpAny_builtinsFor (m := X.mg) (by rw [I1.ok.glob]; exact ((I1.mod.glob.keeps I1.bk).push o).extBut ex TB.gP) b1 b2 (up _ _ b4 (I1.bk _ _ b5)) b6 b7 b8 ?_
  refine ⟨s1.heap.objs.size, [s1.heap.objs.size, a], [s1.heap.objs.size], its.length, (fun i v => its[i]? = some v), St, (fun _ => true), (fun i y => ∃ y0, ys[i]? = some y0 ∧ RelV y0 y), rfl, W, ?_, ?_, (I1.nolimit.push o).extBut ex nlS.1, ?_, ?_, ?_⟩
  · refine (W X.A hr.hd).frame _ _ _ st0 fun b hb u e => ex b u (fun z => ?_) e
    rcases List.mem_cons.mp hb with q | q
    · exact neI (q.symm.trans z)
    · have q2 : b = a := by simpa using q
      exact absurd (q2.symm.trans z) (by
        intro az
        rcases hsq with hh | hh
        · obtain ⟨its', _, pl, _⟩ := I1.list hh
          obtain ⟨oo, _, e1, _, _, d1⟩ := pl
          rw [az, tabS] at e1
          cases e1
          cases d1
        · obtain ⟨its', _, pl, _⟩ := I1.tuple hh
          obtain ⟨oo, e1, _, _, d1⟩ := pl
          rw [az, tabS] at e1
          cases e1
          cases d1)
  · intro b hb
    show b < h3.objs.size
    rcases List.mem_cons.mp hb with q | q
    · rw [q]; exact Nat.lt_of_succ_le sz
    · have q2 : b = a := by simpa using q
      rw [q2]; exact Nat.lt_of_lt_of_le hlt (Nat.le_of_succ_le sz)
  · intro z
    have z2 : cStatics = s1.heap.objs.size := by simpa using z
    exact Nat.ne_of_lt nlS.2 z2
  · intro href hk
    refine ⟨fun A' E' i v t m hA _ _ hv hn hm hkp => ?_, fun A' E' i v t m hA _ hU hv _ hn hm hkp => ?_⟩
    · simp only [List.forIn_nil]
      exact wpAny_pure ⟨rfl, GxR.keeps_refl _⟩
    · have li : i < xs.length := by rw [rv.length]; exact (List.getElem?_eq_some_iff.mp hv).1
      obtain ⟨u, hu, ru⟩ := rv.get (List.getElem?_eq_getElem li)
      rw [hv] at hu
      cases hu
      refine wpAny_mono (hel pins s1 t _ cv _ A' E' i _ v m I1 hA hU (List.getElem?_eq_getElem li) ru hn hm fun b u n e => ?_) (fun y t' r => r) fun _ _ e => e
      have e3 := up b u n e
      refine hkp b (List.mem_range.mpr (Heap.lt_size e3)) (fun z => ?_) u (hk b u e3)
      have z2 : b = s1.heap.objs.size := by simpa using z
      exact Nat.lt_irrefl _ (z2 ▸ Heap.lt_size e)
  · intro g h5 tk5 gs hgb hag hsz5 hk5 W5 hat
    have el : its.length = ys.length := by rw [hyl, ← rv.length]
    simp only [GxR.passing_true, List.length_range, el] at W5 hat
    refine hQ ys H1 g _ (by rw [hyl]; exact hz) q1 ⟨_, _, _, _, _, W5, hat, ?_, List.mem_cons_self, fun i s9 st => st.1.typeIs, ?_, fun s' mv => ?_⟩
    · intro b hb
      show b < h5.objs.size
      rw [hsz5]
      rcases List.mem_cons.mp hb with q | q
      · rw [q]; exact Nat.lt_succ_self _
      · rcases List.mem_cons.mp q with q | q
        · rw [q]; exact Nat.lt_succ_of_lt hag
        · exact Nat.lt_succ_of_lt (Nat.lt_trans (List.mem_range.mp q) hag)
    · intro j v hv
      obtain ⟨i, hij, y0, hy, r⟩ := hv
      obtain ⟨hj, ej⟩ := List.getElem?_eq_some_iff.mp hij
      rw [List.getElem_range] at ej
      subst ej
      exact ⟨y0, hy, r⟩
    · have out : ∀ b u, s1.heap.get? b = some u → b ∉ h3.objs.size :: [s1.heap.objs.size] := fun b u e hb => by
        have l := Heap.lt_size e
        rcases List.mem_cons.mp hb with q | q
        · rw [q] at l
          exact absurd l (Nat.not_lt.mpr (Nat.le_of_succ_le sz))
        · have q2 : b = s1.heap.objs.size := by simpa using q
          exact Nat.lt_irrefl _ (q2 ▸ l)
      have J := GxR.inv_tab (more := more) (h' := s'.heap) (g' := s'.gens) (d' := s'.drawn) (t' := s'.toks) I1 hP (fun b u n e => mv.heap b u (out b u e) (hk5 b u (up b u n e))) (mv.heap P _ (out P _ tabS) (hk5 P _ tab3)) (AllBare.movedS (I1.bare.push hgb) mv)
      rw [GxR.sh_eta s1 s' mv.os] at J
      exact ⟨_, ⟨⟨ps ++ more, upd_same, tr3⟩, fun b hb => upd_ne hb⟩, J⟩
/-- tuple(elt for x in e) -/
def tTupG (X : Cx) (scope : Scope) (x : Str) (elt : Expr) (P : Addr) (te : TE) : TE := fun σ H Q => te σ H fun v H1 => ∃ (a : Addr) (xs ys : List V), v = .ref a ∧ Sq X.K H1 a xs ∧ ys.length = xs.length ∧ (∀ pins, EltV X pins σ scope x elt P H1 xs ys) ∧ GxR.TabG H1 P ∧
  ∀ H2, GxR.Tabbed P H1 H2 → ∀ p, H2 p = none → Q (.ref p) (upd H2 p (.tup ys))
theorem items_vals {ys : List V} {F : Nat → Value → Prop} {acc : Array Value} {n : Nat} (hn : ys.length = n) (hF : ∀ j v, F j v → ∃ y, ys[j]? = some y ∧ RelV y v) (h : ItemsOf F acc n) : Vals ys acc.toList := by
  have gen : ∀ (l : List Value) (zs : List V), zs.length = l.length → (∀ (j : Nat) (v : Value), l[j]? = some v → ∃ y, zs[j]? = some y ∧ RelV y v) → Vals zs l := by
    intro l
    induction l with
    | nil => intro zs e _; cases zs with
      | nil => exact .nil
      | cons z r => cases e
    | cons v r ih => intro zs e k; cases zs with
      | nil => cases e
      | cons z q =>
        obtain ⟨y, hy, ry⟩ := k 0 v rfl
        cases hy
        exact .cons ry (ih q (by simpa using e) fun j v hv => k (j + 1) v hv)
  refine gen acc.toList ys (by rw [hn, ← h.1]; simp) fun j v hv => hF j v (h.2 j v (by simpa using hv))
theorem pe_tupG {c P : Addr} {elt iter : Expr} {x : Str} {px p pos gpos : Pos} {scope : Scope} {te : TE} {k : Nat}
    (hr : Room k X.A) (hg : Gl X "tuple") (hm : X.mg "tuple" = none) (TB : GxR.TabB X.base X.mg c P) (hcode : X.env.code = .ref c) (S : GxR.GenS X.env scope x) (hi : PE X iter te) (hs : ∀ v, genFold iter X.env v = pure v)
    (he : starEach [.GeneratorExp elt [⟨.Name x px, iter, [], 0⟩] scope gpos] X.env = (false, eval (.GeneratorExp elt [⟨.Name x px, iter, [], 0⟩] scope gpos) X.env) :: starEach [] X.env := by rfl) :
    PE X (.Call (.Name "tuple" p) [.GeneratorExp elt [⟨.Name x px, iter, [], 0⟩] scope gpos] [] pos) (tTupG X scope x elt P te) := by
  refine ⟨fun pins s σ H Q I h => ?_⟩
  refine wpAny_Call_Name_kw (ld_blt I hg hm boot_tuple (PyProof.Rows.callWith_type1 ?_ he (by rfl)))
  rw [he]
  show wpAny _ _ (spliced ((false, _) :: backTo pos (starEach [] X.env))) _ _ s
  unfold tTupG at h
  refine Calls.spliced_cons (gen_sq (te := te) (R := fun ys H1 => ∀ H2, GxR.Tabbed P H1 H2 → ∀ p, H2 p = none → Q (.ref p) (upd H2 p (.tup ys))) hr TB hcode S hi hs I (H := H) h fun ys H1 g s5 hz hR hG => ?_)
  · obtain ⟨fp, wr, G, F, St, W, st, hfp, hgf, hty, hF, hI⟩ := hG
    refine Calls.spliced_nil (call_tuple_gen W.in4_3 hty st hfp hgf (fun s' acc mv ia => ?_) hz)
    obtain ⟨H2, hT, J⟩ := hI s' mv
    have rv := items_vals rfl hF ia
    refine ⟨.ref s'.heap.objs.size, _, J.laid (t' := s'.toks) (o := .tup ys) (fun b u e => Heap.get?_push_of_some _ e) (Nat.le_refl _) ⟨hz, acc.toList, rv, ?_⟩, rfl, hR H2 hT _ (J.hok.fresh (Nat.le_refl _))⟩
    have z := IsTup.new s'.heap acc
    simpa using z
/-- all(elt for x in e), any(elt for x in e), the element True or False -/
def tAllG (X : Cx) (scope : Scope) (x : Str) (elt : Expr) (P : Addr) (te : TE) : TE := fun σ H Q => te σ H fun v H1 => ∃ (a : Addr) (xs ys : List V), v = .ref a ∧ Sq X.K H1 a xs ∧ ys.length = xs.length ∧ (∀ pins, EltV X pins σ scope x elt P H1 xs ys) ∧ GxR.TabG H1 P ∧
  ∃ bs : List Bool, ys = bs.map V.bl ∧ ∀ H2, GxR.Tabbed P H1 H2 → Q (.bl (bs.all id)) H2
def tAnyG (X : Cx) (scope : Scope) (x : Str) (elt : Expr) (P : Addr) (te : TE) : TE := fun σ H Q => te σ H fun v H1 => ∃ (a : Addr) (xs ys : List V), v = .ref a ∧ Sq X.K H1 a xs ∧ ys.length = xs.length ∧ (∀ pins, EltV X pins σ scope x elt P H1 xs ys) ∧ GxR.TabG H1 P ∧
  ∃ bs : List Bool, ys = bs.map V.bl ∧ ∀ H2, GxR.Tabbed P H1 H2 → Q (.bl (bs.any id)) H2
theorem truth_bls {A : Around} {bs : List Bool} {F : Nat → Value → Prop} (hF : ∀ j v, F j v → ∃ y, (bs.map V.bl)[j]? = some y ∧ RelV y v) : TruthOf X.prog X.w A F (fun j => bs.getD j false) := by
  intro j v t Q E hv hq
  obtain ⟨y, hy, r⟩ := hF j v hv
  rw [List.getElem?_map] at hy
  cases e : bs[j]? with
  | none => rw [e] at hy; cases hy
  | some b =>
    rw [e] at hy
    cases hy
    cases (show v = Value.bool b from r)
    have e2 : bs.getD j false = b := by rw [List.getD_eq_getElem?_getD, e]; rfl
    exact wpAny_truthy_bool (by rw [← e2]; exact hq)
theorem all_range (bs : List Bool) : (List.range bs.length).all (fun j => bs.getD j false) = bs.all id := by
  rw [Bool.eq_iff_iff, List.all_eq_true, List.all_eq_true]
  constructor
  · intro h b hb
    obtain ⟨j, hj, e⟩ := List.getElem_of_mem hb
    have q := h j (List.mem_range.mpr hj)
    rw [List.getD_eq_getElem?_getD, List.getElem?_eq_getElem hj, e] at q
    exact q
  · intro h j hj
    have hj' := List.mem_range.mp hj
    rw [List.getD_eq_getElem?_getD, List.getElem?_eq_getElem hj']
    exact h _ (List.getElem_mem hj')
theorem any_range (bs : List Bool) : (List.range bs.length).any (fun j => bs.getD j false) = bs.any id := by
  rw [Bool.eq_iff_iff, List.any_eq_true, List.any_eq_true]
  constructor
  · intro ⟨j, hj, q⟩
    have hj' := List.mem_range.mp hj
    rw [List.getD_eq_getElem?_getD, List.getElem?_eq_getElem hj'] at q
    exact ⟨_, List.getElem_mem hj', q⟩
  · intro ⟨b, hb, q⟩
    obtain ⟨j, hj, e⟩ := List.getElem_of_mem hb
    refine ⟨j, List.mem_range.mpr hj, ?_⟩
    rw [List.getD_eq_getElem?_getD, List.getElem?_eq_getElem hj, e]
    exact q
theorem pe_allG {c P : Addr} {elt iter : Expr} {x : Str} {px p pos gpos : Pos} {scope : Scope} {te : TE} {k : Nat}
    (hr : Room k X.A) (hg : Gl X "all") (hm : X.mg "all" = none) (TB : GxR.TabB X.base X.mg c P) (hcode : X.env.code = .ref c) (S : GxR.GenS X.env scope x) (hi : PE X iter te) (hs : ∀ v, genFold iter X.env v = pure v)
    (he : starEach [.GeneratorExp elt [⟨.Name x px, iter, [], 0⟩] scope gpos] X.env = (false, eval (.GeneratorExp elt [⟨.Name x px, iter, [], 0⟩] scope gpos) X.env) :: starEach [] X.env := by rfl) :
    PE X (.Call (.Name "all" p) [.GeneratorExp elt [⟨.Name x px, iter, [], 0⟩] scope gpos] [] pos) (tAllG X scope x elt P te) := by
  refine ⟨fun pins s σ H Q I h => ?_⟩
  refine wpAny_Call_Name_kw (ld_blt I hg hm boot_all (PyProof.Rows.callWith_builtin1 ?_ he (by rfl)))
  rw [he]
  show wpAny _ _ (spliced ((false, _) :: backTo pos (starEach [] X.env))) _ _ s
  unfold tAllG at h
  refine Calls.spliced_cons (gen_sq (te := te) (R := fun ys H1 => ∃ bs : List Bool, ys = bs.map V.bl ∧ ∀ H2, GxR.Tabbed P H1 H2 → Q (.bl (bs.all id)) H2) hr TB hcode S hi hs I (H := H) h fun ys H1 g s5 hz hR hG => ?_)
  obtain ⟨bs, rfl, hR⟩ := hR
  obtain ⟨fp, wr, G, F, St, W, st, hfp, hgf, hty, hF, hI⟩ := hG
  refine Calls.spliced_nil (call_all_walkS (W.in4_1.self 0 _ _ _ st ⟨g, fp, wr, G, _, F, St, _, rfl, W.in4_1, st, truth_bls hF, fun s' mv => ?_⟩))
  obtain ⟨H2, hT, J⟩ := hI s' mv
  refine ⟨.bl _, H2, J, rfl, ?_⟩
  rw [List.length_map, all_range]
  exact hR H2 hT
theorem pe_anyG {c P : Addr} {elt iter : Expr} {x : Str} {px p pos gpos : Pos} {scope : Scope} {te : TE} {k : Nat}
    (hr : Room k X.A) (hg : Gl X "any") (hm : X.mg "any" = none) (TB : GxR.TabB X.base X.mg c P) (hcode : X.env.code = .ref c) (S : GxR.GenS X.env scope x) (hi : PE X iter te) (hs : ∀ v, genFold iter X.env v = pure v)
    (he : starEach [.GeneratorExp elt [⟨.Name x px, iter, [], 0⟩] scope gpos] X.env = (false, eval (.GeneratorExp elt [⟨.Name x px, iter, [], 0⟩] scope gpos) X.env) :: starEach [] X.env := by rfl) :
    PE X (.Call (.Name "any" p) [.GeneratorExp elt [⟨.Name x px, iter, [], 0⟩] scope gpos] [] pos) (tAnyG X scope x elt P te) := by
  refine ⟨fun pins s σ H Q I h => ?_⟩
  refine wpAny_Call_Name_kw (ld_blt I hg hm boot_any (PyProof.Rows.callWith_builtin1 ?_ he (by rfl)))
  rw [he]
  show wpAny _ _ (spliced ((false, _) :: backTo pos (starEach [] X.env))) _ _ s
  unfold tAnyG at h
  refine Calls.spliced_cons (gen_sq (te := te) (R := fun ys H1 => ∃ bs : List Bool, ys = bs.map V.bl ∧ ∀ H2, GxR.Tabbed P H1 H2 → Q (.bl (bs.any id)) H2) hr TB hcode S hi hs I (H := H) h fun ys H1 g s5 hz hR hG => ?_)
  obtain ⟨bs, rfl, hR⟩ := hR
  obtain ⟨fp, wr, G, F, St, W, st, hfp, hgf, hty, hF, hI⟩ := hG
  refine Calls.spliced_nil (call_any_walkS (W.in4_1.self 0 _ _ _ st ⟨g, fp, wr, G, _, F, St, _, rfl, W.in4_1, st, truth_bls hF, fun s' mv => ?_⟩))
  obtain ⟨H2, hT, J⟩ := hI s' mv
  refine ⟨.bl _, H2, J, rfl, ?_⟩
  rw [List.length_map, any_range]
  exact hR H2 hT
/-- an element f[x]: f a captured name of a tuple, x the walk's own -/
theorem elt_item {f x : Str} {scope : Scope} {P fa : Addr} {H1 : Hp} {xs ys zs : List V} {j : Nat} {p1 p2 p3 : Pos} (hk : scope.kind = .function) (hx : scope.names.lookup x = some .local) (hf : scope.names.lookup f = some .free)
    (hcl : (cloFrom X.env.cells scope.names []).lookup f = some ((X.env.cells.lookup f).getD 0)) (hj : X.N[j]? = some f) (hkf : X.env.kindOf f = some .cell) (hσ : σ[j]? = some (some (.ref fa))) (hq : SqT X.K H1 fa zs) (hT : GxR.TabG H1 P)
    (hv : ∀ (i : Nat) x0, xs[i]? = some x0 → ∃ (n : Int) (y : V), x0 = .int n ∧ atI zs n = some y ∧ ys[i]? = some y) (hdf : (f == ("__debug__" : Str)) = false := by decide) (hdx : (x == ("__debug__" : Str)) = false := by decide) (hcf : (f == ("__classdict__" : Str)) = false := by decide) :
    EltV X pins σ scope x (.Subscript (.Name f p1) (.Name x p2) p3) P H1 xs ys := by
  intro s1 t C code bi A' E' i x0 u m I hA hU hx0 ru hn hm hkp
  obtain ⟨n, y, rfl, hat, hy⟩ := hv i x0 hx0
  obtain ⟨tk, rfl⟩ := (show ∃ t, u = Value.int n t from ru)
  obtain ⟨ps, hP, _⟩ := hT
  have tabS : s1.heap.get? P = some { cls := .none, data := .fields ps } := I.hok P _ hP
  obtain ⟨m1, _, hl⟩ := I.loc
  obtain ⟨uf, rf, lk⟩ := hl j f _ hj hσ (.inr (.inl hkf))
  cases (show uf = Value.ref fa from rf)
  obtain ⟨c, hc, ic⟩ : ∃ c, X.env.cells.lookup f = some c ∧ s1.heap.IsCell c (some (.ref fa)) := by
    rcases lk with ⟨z, _⟩ | ⟨_, c, hc, ic⟩
    · rw [hkf] at z; cases z
    · exact ⟨c, hc, ic⟩
  have ic2 : t.heap.IsCell c (some (.ref fa)) := by
    obtain ⟨o, ho, hd⟩ := ic
    refine ⟨o, hkp c o (fun z => ?_) ho, hd⟩
    rw [z, tabS] at ho
    cases ho
    cases hd
  obtain ⟨its, rv, pl, hz⟩ := I.tuple hq
  have pl2 : IsTup t.heap fa its.toArray := by
    obtain ⟨o, ho, hcl', nn, hd⟩ := pl
    refine ⟨o, hkp fa o (fun z => ?_) ho, hcl', nn, hd⟩
    rw [z, tabS] at ho
    cases ho
    cases hd
  obtain ⟨jj, h1, h2, h3, h4, h5⟩ := atI_get hat
  obtain ⟨wv, ew, rw'⟩ := rv.get h2
  have hlen := rv.length
  have hn63 := line63
  have clf : (genEnv scope (cloFrom X.env.cells scope.names []) C code bi X.env).cells.lookup f = some c := by
    show (cloFrom X.env.cells scope.names []).lookup f = some c
    rw [hcl, hc]
    rfl
  refine Subscript_ (wpAny_Name (wpAny_loadName_free hk hf clf ic2 (wpAny_Name (wpAny_loadName_local hk hx hn hm ?_) hdx) hcf) hdf)
  exact subscriptTail_builtinR (x := wv) pl2.typeIs slot_tuple_getitem.lookup
    (getItem_tuple (j := jj) (Q := fun r s' => r = wv ∧ ((∃ y0, ys[i]? = some y0 ∧ RelV y0 r) ∧ Keeps t s')) pl2 (by omega) (by omega) (by rw [List.size_toArray, ← hlen]; exact h1) (by simpa using ew) ⟨rfl, ⟨y, hy, rw'⟩, GxR.keeps_refl _⟩) (by rfl)
end
end Gv

set_option Elab.async false
set_option linter.all false
set_option maxRecDepth 100000
set_option maxHeartbeats 4000000
/-! enumerate(t), t a tuple -/
namespace Et
open PySem PySem.Spec PyProof.Rows L2
theorem meets_one {v : Value} {o : Obj} {B : Heap → Prop} (hB : Begins v o B) :
    Meets (Builtin.«enumerate.__new__» ⟨[.type "enumerate", v], []⟩) (fun _ R s => B s.heap ∧
      R (.ok (.ret (.ref (s.heap.push o).objs.size))) { s with heap := (s.heap.push o).push { cls := .type "enumerate", data := .fields #[.none, .bool false, .ref s.heap.objs.size, rawInt 0, .none, .none] } }) :=
  .of_wp fun prog w A R s h => by
    obtain ⟨hp, g, d, tk, os⟩ := s
    obtain ⟨hb, h⟩ := h
    have hsub := sub_enumerate
    have begin1 : ∀ {A1 : Around} {E1 : Value → Shared → Prop} {Q1 : Value → Shared → Prop}, Q1 (.ref hp.objs.size) ⟨hp.push o, g, d, tk, os⟩ → wpAny (model prog w) A1 (pyIter v) Q1 E1 ⟨hp, g, d, tk, os⟩ := fun q => hB.iter prog w _ _ ⟨hp, g, d, tk, os⟩ _ hb q
    wp_walk using begin1
    refine wpAny_stack_any fun stk => wpAny_pure ?_
    split
    next c _ _ _ _ _ =>
      cases (c == Value.type "enumerate") <;> (wp_walk using begin1; exact ⟨_, rfl, h⟩)
    next => wp_walk using begin1; exact ⟨_, rfl, h⟩
theorem make {prog : Program} {w : World} {A : Around} {E : Value → Shared → Prop} {s : Shared} {v : Value} {o : Obj} {B : Heap → Prop} {Q : Value → Shared → Prop} (hB : Begins v o B) (hb : B s.heap)
    (k : ∀ h', IsEnum h' (s.heap.objs.size + 1) s.heap.objs.size 0 .none → h'.get? s.heap.objs.size = some o → (∀ b o, s.heap.get? b = some o → h'.get? b = some o) → Q (.ref (s.heap.objs.size + 1)) { s with heap := h' }) :
    wpAny (model prog w) A (call (.type "enumerate") [v]) Q E s := by
  refine callType_new F.called_enumerate (by decide) (F.typeCall_enumerate_1 _) (F.newCall_enumerate_1 _) (fun obj => F.args_object_init_2 obj _) F.entry_enumerate_new (meets_one hB) ⟨hb, ?_⟩
  have z : (s.heap.push o).objs.size = s.heap.objs.size + 1 := Heap.size_push ..
  generalize hn : ({ cls := .type "enumerate", data := .fields #[.none, .bool false, .ref s.heap.objs.size, rawInt 0, .none, .none] } : Obj) = en
  have e : ((s.heap.push o).push en).get? (s.heap.objs.size + 1) = some en := by
    have q := Heap.get?_push_size (s.heap.push o) (o := en) (by rw [← hn]; rfl)
    rw [z] at q
    exact q
  have ie : IsEnum ((s.heap.push o).push en) (s.heap.objs.size + 1) s.heap.objs.size 0 .none := by
    subst hn
    exact e
  show _ ∧ _
  rw [z]
  exact ⟨⟨_, e, by rw [← hn]⟩, k _ ie (Heap.get?_push_of_some _ (Heap.get?_push_size _ hB.free)) fun b u x => Heap.get?_push_of_some _ (Heap.get?_push_of_some _ x)⟩
/-- the tuple at a walked with its places -/
def ItE (K : PySem.W.Frag) (a : Addr) : It :=
  ⟨fun i H => ∃ (xs : List V) (x : V), SqT K H a xs ∧ xs[i]? = some x, fun i H v H' => ∃ T x, v = .ref T ∧ H T = none ∧ H' = upd H T (.tup [.int (i : Nat), x]) ∧ ∀ xs, SqT K H a xs → xs[i]? = some x,
    fun i H => ∃ xs : List V, SqT K H a xs ∧ xs.length = i⟩
theorem turn {P : Program} {w : World} {K : PySem.W.Frag} {elts : List Expr} {kk : Nat} {tpos : Pos} (a e it : Addr) (hei : e ≠ it) :
    Turn P w K (.Tuple elts kk tpos) (ItE K a) [e, it] e (fun i h => (∃ old, IsEnum h e it ((i : Nat) : Int) old) ∧ h.IsTupleIter it a i) where
  mem := List.mem_cons_self
  obj := fun i h st b hb => by
    obtain ⟨⟨old, he⟩, o, ho, _, hd⟩ := st
    rcases List.mem_cons.mp hb with z | z
    · rw [z]; exact ⟨_, he, fun v q => nomatch q⟩
    · rw [List.mem_singleton.mp z]; exact ⟨o, ho, fun v q => by rw [hd] at q; cases q⟩
  keep := fun i h h' st k => ⟨let ⟨old, he⟩ := st.1; ⟨old, k e (by simp) _ he⟩, st.2.at fun o q => k it (by simp) o q⟩
  item := by
    intro X hP hw hK hc i pins s σ H E I hf st hg
    subst hP hw hK
    obtain ⟨⟨old, he⟩, hit⟩ := st
    obtain ⟨xs, x, hq, hx⟩ := hg
    obtain ⟨its, rv, pl, hz⟩ := I.tuple hq
    obtain ⟨u, hu, ru⟩ := rv.get hx
    have le : e < s.heap.objs.size := Heap.lt_size he
    have li : it < s.heap.objs.size := by obtain ⟨_, q, _⟩ := hit; exact Heap.lt_size q
    have nai : a ≠ it := fun z => by
      obtain ⟨o, q, hcl, _⟩ := hit
      obtain ⟨o2, q2, hcl2, _⟩ := pl
      rw [z, q] at q2
      cases q2
      rw [hcl] at hcl2
      exact absurd (Value.type.inj hcl2) (by decide)
    have nea : e ≠ a := fun z => by
      obtain ⟨o2, q2, hcl2, _⟩ := pl
      rw [← z] at q2
      have q3 := Option.some.inj (he.symm.trans q2)
      rw [← q3] at hcl2
      exact absurd (Value.type.inj hcl2) (by decide)
    have D := Draws.tuple (prog := X.prog) (w := X.w) (A := X.A.in1) (I.ok.hd hc) it a nai its.toArray
    have hlt : i < its.toArray.size := by simpa using (List.getElem?_eq_some_iff.mp hu).1
    refine wpAny_pyNext_enum_itemD D he ⟨hit, pl⟩ hlt hei (by simp [hei, nea]) fun y h' tk hy ho st' hT hsz hk => ?_
    obtain rfl : y = u := by
      have q : its[i]? = some y := by simpa using hy
      exact Option.some.inj (q.symm.trans hu)
    refine ⟨_, rfl, wpAny_letOwnedTupleGo_enum (s := { s with heap := h', toks := tk + 1 }) ho fun h'' he' sb => ?_⟩
    have tT : h''.get? s.heap.objs.size = some { cls := .type "tuple", data := .seq #[.int i tk, y] } := (sb.2 _ (Nat.ne_of_gt le)).trans hT
    have J : Inv X pins σ (upd H s.heap.objs.size (.tup [.int (i : Nat), x])) { s with heap := h'', toks := tk + 1 } :=
      I.turnedNew (ch := [e, it]) (fun b ob nb q => (sb.2 b (fun z => nb (by simp [z]))).trans (hk b ob (fun z => nb (by simp [z])) (fun z => nb (by simp [z])) q)) hf (Nat.le_refl _)
        ⟨by show 2 ≤ sizeLine; decide, [.int i tk, y], .cons ⟨_, rfl⟩ (.cons ru .nil), ⟨_, tT, rfl, _, rfl⟩⟩
    refine ⟨.ref s.heap.objs.size, _, J, rfl, ⟨_, x, rfl, I.hok.fresh (Nat.le_refl _), rfl, fun ys hy => by rw [I.tuple_inj hy hq]; exact hx⟩, ⟨⟨y, ?_⟩, st'.1.at fun o q => (sb.2 it (Ne.symm hei)).trans q⟩, fun b hb => ?_⟩
    · have c1 : ((i + 1 : Nat) : Int) = (i : Int) + 1 := by omega
      rw [c1]; exact he'
    · have lb : b < s.heap.objs.size := by
        rcases List.mem_cons.mp hb with z | z
        · rw [z]; exact le
        · rw [List.mem_singleton.mp z]; exact li
      rw [upd_ne (Nat.ne_of_lt lb)]
      exact (hf b hb).1
  done := by
    intro X hP hw hK hc i pins s σ H E I hf st hg
    subst hP hw hK
    obtain ⟨⟨old, he⟩, hit⟩ := st
    obtain ⟨xs, hq, hx⟩ := hg
    obtain ⟨its, rv, pl, hz⟩ := I.tuple hq
    obtain ⟨f0, f1, f2, f3, f4, f5⟩ := hf it (by simp)
    have hl := rv.length
    have nai : a ≠ it := fun z => by
      obtain ⟨o, q, hcl, _⟩ := hit
      obtain ⟨o2, q2, hcl2, _⟩ := pl
      rw [z, q] at q2
      cases q2
      rw [hcl] at hcl2
      exact absurd (Value.type.inj hcl2) (by decide)
    have D := Draws.tuple (prog := X.prog) (w := X.w) (A := X.A.in1) (I.ok.hd hc) it a nai its.toArray
    have en : i = its.toArray.size := by rw [List.size_toArray, ← hl, hx]
    exact wpAny_pyNext_enum_endD D he (by rw [← en]; exact ⟨hit, pl⟩) fun h' eb => ⟨rfl, I.turned (t' := s.toks) (fun b o hb q => eb b o hb q) f0 f1 f3 f4 f5⟩
  self := fun A i s Q E st h => let ⟨⟨_, he⟩, _⟩ := st; wpAny_pyIter_enum he h
def iEnumT (K : PySem.W.Frag) (ta : TA) : TI := fun σ H R => ta σ H fun vs H1 => ∃ a xs, vs = [.ref a] ∧ SqT K H1 a xs ∧ R (ItE K a) H1
theorem pi_enumT {X : Cx} {e : Expr} {ta : TA} {p pos tpos : Pos} {elts : List Expr} {kk : Nat} (hg : Gl X "enumerate") (hm : X.mg "enumerate" = none) (ha : PA X [e] ta) (hs : starEach [e] X.env = [(false, eval e X.env)] := by rfl) :
    PI X (.Tuple elts kk tpos) (.Call (.Name "enumerate" p) [e] [] pos) (iEnumT X.K ta) := by
  refine ⟨fun pins s σ H R I h => ?_⟩
  refine Call_ (ld_blt I hg hm boot_enumerate (PyProof.Rows.callWith_type1 (thn (ha.run pos pins s σ H _ I h) fun us s1 ⟨vs, H1, I1, r1, q1⟩ => ?_) hs rfl))
  obtain ⟨a, xs, rfl, hq, q⟩ := q1
  obtain ⟨u, rfl, ru⟩ := vals1 r1
  cases (show u = Value.ref a from ru)
  obtain ⟨its, rv, pl, hz⟩ := I1.tuple hq
  refine make (begins_tuple a its.toArray) pl fun h' ie io kp => wpAny_pyIter_enum ie ?_
  refine ⟨s1.heap.objs.size + 1, [s1.heap.objs.size + 1, s1.heap.objs.size], _, _, H1, rfl, I1.kept (t' := s1.toks) kp, turn a (s1.heap.objs.size + 1) s1.heap.objs.size (Nat.succ_ne_self _), ⟨⟨.none, ie⟩, _, io, rfl, rfl⟩, fun b hb => ?_, q⟩
  have lb : s1.heap.objs.size ≤ b := by
    rcases List.mem_cons.mp hb with z | z
    · rw [z]; exact Nat.le_succ _
    · rw [List.mem_singleton.mp z]; exact Nat.le_refl _
  exact I1.fpOk lb (I1.hok.fresh lb)
/-- for (i, x) in enumerate(t): an invariant over the turns -/
theorem for_enumT {K : PySem.W.Frag} {a : Addr} {xs : List V} {g : TG} {tb : TS} {D : Ends} {σ : L2.St} {H : Hp} (Pv : Nat → L2.St → Hp → Prop) (h0 : Pv 0 σ H) (hl : ∀ i σ H, i ≤ xs.length → Pv i σ H → SqT K H a xs)
    (hs : ∀ i x σ H T, xs[i]? = some x → Pv i σ H → H T = none → g (.ref T) σ (upd H T (.tup [.int (i : Nat), x])) fun σ2 H2 => tb { D with nx := Pv (i + 1), ct := Pv (i + 1), bk := D.nx } σ2 H2) (hd : ∀ σ H, Pv xs.length σ H → D.nx σ H) :
    ∃ W : Nat → Nat → L2.St → Hp → Prop, (∃ m, W 0 m σ H) ∧ ∀ i m σ H, W i m σ H →
      ((ItE K a).stop i H ∧ D.nx σ H) ∨ ((ItE K a).go i H ∧ ∃ N : L2.St → Hp → Prop, (∀ σ' H', N σ' H' → ∃ m', m' < m ∧ W (i + 1) m' σ' H') ∧ ∀ x H', (ItE K a).yld i H x H' → g x σ H' fun σ2 H2 => tb { D with nx := N, ct := N, bk := D.nx } σ2 H2) := by
  refine ⟨fun i m σ H => i + m = xs.length ∧ Pv i σ H, ⟨xs.length, by omega, h0⟩, ?_⟩
  rintro i m σ H ⟨e, p⟩
  have q := hl i σ H (by omega) p
  by_cases c : i < xs.length
  · refine .inr ⟨⟨xs, xs[i], q, List.getElem?_eq_getElem c⟩, Pv (i + 1), fun σ' H' p' => ⟨m - 1, by omega, by omega, p'⟩, fun v H' hy => ?_⟩
    obtain ⟨T, x, rfl, nT, rfl, fx⟩ := hy
    exact hs i x σ H T (fx xs q) p nT
  · have e2 : i = xs.length := by omega
    subst e2
    exact .inl ⟨⟨xs, q, rfl⟩, hd σ H p⟩
theorem lc_enumT {K : PySem.W.Frag} {a : Addr} {xs : List V} {g : TG} {tt : TT} {te : TE} {vs : List Nat} {σ : L2.St} {H1 : Hp} {D : Addr} {Qd : Hp → Prop} (Pv : Nat → Hp → Prop) (h0 : Pv 0 (upd H1 D (.lst []))) (hl : ∀ i H, i ≤ xs.length → Pv i H → SqT K H a xs)
    (hs : ∀ i x H T, xs[i]? = some x → Pv i H → H T = none → g (.ref T) (wipe σ vs) (upd H T (.tup [.int (i : Nat), x])) fun σ2 H2 => wipe σ2 vs = wipe σ vs ∧ tt σ2 H2 fun b H3 =>
      if b = true then te σ2 H3 fun y H4 => ∃ acc, H4 D = some (.lst acc) ∧ acc.length < sizeLine ∧ Pv (i + 1) (upd H4 D (.lst (acc ++ [y]))) else Pv (i + 1) H3) (hd : ∀ H, Pv xs.length H → Qd H) :
    ∃ W : Nat → Nat → Hp → Prop, (∃ m, W 0 m (upd H1 D (.lst []))) ∧ ∀ i m H, W i m H →
      ((ItE K a).stop i H ∧ Qd H) ∨ ((ItE K a).go i H ∧ ∃ Nx : Hp → Prop, (∀ H', Nx H' → ∃ m', m' < m ∧ W (i + 1) m' H') ∧ ∀ x H', (ItE K a).yld i H x H' → g x (wipe σ vs) H' fun σ2 H2 => wipe σ2 vs = wipe σ vs ∧ tt σ2 H2 fun b H3 =>
        if b = true then te σ2 H3 fun y H4 => ∃ acc, H4 D = some (.lst acc) ∧ acc.length < sizeLine ∧ Nx (upd H4 D (.lst (acc ++ [y]))) else Nx H3) := by
  refine ⟨fun i m H => i + m = xs.length ∧ Pv i H, ⟨xs.length, by omega, h0⟩, ?_⟩
  rintro i m H ⟨e, p⟩
  have q := hl i H (by omega) p
  by_cases c : i < xs.length
  · refine .inr ⟨⟨xs, xs[i], q, List.getElem?_eq_getElem c⟩, Pv (i + 1), fun H' p' => ⟨m - 1, by omega, by omega, p'⟩, fun v H' hy => ?_⟩
    obtain ⟨T, x, rfl, nT, rfl, fx⟩ := hy
    exact hs i x H T (fx xs q) p nT
  · have e2 : i = xs.length := by omega
    subst e2
    exact .inl ⟨⟨xs, q, rfl⟩, hd H p⟩
end Et

set_option Elab.async false
set_option linter.all false
set_option maxRecDepth 100000
set_option maxHeartbeats 4000000
/-! riddles as they lie in the heap, their data, and what a filling breaks -/
namespace Dt
open PySem PySem.Spec PyProof.Rows L2
/-! ### in, of a tuple of data -/
def rInT (K : PySem.W.Frag) : R2 := fun x y H Q => ∃ d ds, Dp K H x d ∧ Dp K H y (.tuple ds) ∧ SeqAt.shaped d = true ∧ SeqAt.shaped (.tuple ds) = true ∧ Q (.bl (ds.any fun z => PyData.eqv z d)) H
theorem op_inT {X : Cx} (hu : X.A.units + 65 < cLine) : OpR X (compareOp .In) (rInT X.K) := by
  intro pins s σ H x y v u Q I rx ry h
  obtain ⟨d, ds, hd, he, sd, se, q⟩ := h
  obtain ⟨as, r1⟩ := Dp.reads I d x v hd rx
  obtain ⟨bs, r2⟩ := Dp.reads I (.tuple ds) y u he ry
  exact SeqAt.in_tuple_reads r2 r1 (SeqAt.canLay_of_shaped se) (SeqAt.canLay_of_shaped sd) (room_in_shaped sd hu) ⟨.bl _, H, I, rfl, q⟩
/-! ### wishes and riddles -/
abbrev Row := List Int
abbrev WD := List Int × List Row
def IsRow (H : Hp) (r : Addr) (row : Row) : Prop := H r = some (.tup (row.map V.int))
def IsWish (H : Hp) (wa : Addr) (wd : WD) : Prop := ∃ (pa ra : Addr) (rs : List Addr), H wa = some (.tup [.ref pa, .ref ra]) ∧ H pa = some (.tup (wd.1.map V.int)) ∧ H ra = some (.tup (rs.map V.ref)) ∧ Paired (IsRow H) rs wd.2
def IsRid (H : Hp) (ri : Addr) (many hues : Int) (wds : List WD) : Prop := ∃ (wt : Addr) (was : List Addr), H ri = some (.tup [.int many, .int hues, .ref wt]) ∧ H wt = some (.tup (was.map V.ref)) ∧ Paired (IsWish H) was wds
/-- tuples stay -/
def Tups (H H' : Hp) : Prop := ∀ b xs, H b = some (.tup xs) → H' b = some (.tup xs)
theorem Tups.refl (H : Hp) : Tups H H := fun _ _ e => e
theorem Tups.trans {H H1 H2 : Hp} (a : Tups H H1) (b : Tups H1 H2) : Tups H H2 := fun c xs e => b c xs (a c xs e)
theorem tups_same {H H' : Hp} (s : Same H H') : Tups H H' := fun b xs e => s b _ e
theorem tups_upd {H : Hp} {p : Addr} {o : HO} (h : ∀ xs, H p ≠ some (.tup xs)) : Tups H (upd H p o) := fun b xs e => by
  rw [upd_ne (fun z => h xs (by rw [← z]; exact e))]
  exact e
theorem pairedMap {α β : Type} {F G : α → β → Prop} : ∀ {l : List α} {m : List β}, (∀ a b, F a b → G a b) → Paired F l m → Paired G l m
  | _, _, _, .nil => .nil
  | _, _, k, .cons h t => .cons (k _ _ h) (pairedMap k t)
theorem pairedLen {α β : Type} {F : α → β → Prop} : ∀ {l : List α} {m : List β}, Paired F l m → l.length = m.length
  | _, _, .nil => rfl
  | _, _, .cons _ t => by rw [List.length_cons, List.length_cons, pairedLen t]
theorem pairedGet {α β : Type} {F : α → β → Prop} : ∀ {l : List α} {m : List β} {i : Nat} {b : β}, Paired F l m → m[i]? = some b → ∃ a, l[i]? = some a ∧ F a b
  | _, _, _, _, .nil, h => by simp at h
  | _, _, 0, _, .cons h _, e => by cases e; exact ⟨_, rfl, h⟩
  | _, _, i + 1, b, .cons _ t, e => pairedGet (i := i) (b := b) t e
theorem pairedGetL {α β : Type} {F : α → β → Prop} : ∀ {l : List α} {m : List β} {i : Nat} {a : α}, Paired F l m → l[i]? = some a → ∃ b, m[i]? = some b ∧ F a b
  | _, _, _, _, .nil, h => by simp at h
  | _, _, 0, _, .cons h _, e => by cases e; exact ⟨_, rfl, h⟩
  | _, _, i + 1, a, .cons _ t, e => pairedGetL (i := i) (a := a) t e
theorem IsWish.mono {H H' : Hp} {wa : Addr} {wd : WD} (t : Tups H H') (h : IsWish H wa wd) : IsWish H' wa wd := by
  obtain ⟨pa, ra, rs, h1, h2, h3, h4⟩ := h
  exact ⟨pa, ra, rs, t _ _ h1, t _ _ h2, t _ _ h3, pairedMap (fun a b e => t _ _ e) h4⟩
theorem IsRid.mono {H H' : Hp} {ri : Addr} {m h : Int} {wds : List WD} (t : Tups H H') (x : IsRid H ri m h wds) : IsRid H' ri m h wds := by
  obtain ⟨wt, was, h1, h2, h3⟩ := x
  exact ⟨wt, was, t _ _ h1, t _ _ h2, pairedMap (fun _ _ e => IsWish.mono t e) h3⟩
/-- what may come of the law's drawing -/
structure Good (many hues : Int) (wd : WD) : Prop where
  one : 1 ≤ wd.1.length
  three : wd.1.length ≤ 3
  pl : ∀ p ∈ wd.1, 0 ≤ p ∧ p < many
  some_ : 1 ≤ wd.2.length
  few : wd.2.length ≤ 64
  row : ∀ r ∈ wd.2, r.length = wd.1.length ∧ ∀ h ∈ r, 0 ≤ h ∧ h < hues
structure GoodR (many hues : Int) (wds : List WD) : Prop where
  m1 : 1 ≤ many
  m6 : many ≤ 6
  h2 : 2 ≤ hues
  h4 : hues ≤ 4
  eight : wds.length ≤ 8
  each : ∀ wd ∈ wds, Good many hues wd
structure GoodF (many hues : Int) (fs : List Int) : Prop where
  len : (fs.length : Int) = many
  hue : ∀ h ∈ fs, 0 ≤ h ∧ h < hues
/-! ### the data -/
def rowD (r : Row) : PyData := .tuple (r.map .int)
def wishD (wd : WD) : PyData := .tuple [rowD wd.1, .tuple (wd.2.map rowD)]
def ridD (many hues : Int) (wds : List WD) : PyData := .tuple [.int many, .int hues, .tuple (wds.map wishD)]
section
variable {K : PySem.W.Frag} {H : Hp}
theorem dpInts : ∀ ns : List Int, DpAll K H (ns.map V.int) (ns.map PyData.int)
  | [] => .nil
  | n :: r => .cons (.int n) (dpInts r)
theorem dpRow {r : Addr} {row : Row} (h : IsRow H r row) : Dp K H (.ref r) (rowD row) := .tup (.inl (.inl h)) (dpInts row)
theorem dpRows : ∀ {rs : List Addr} {rows : List Row}, Paired (IsRow H) rs rows → DpAll K H (rs.map V.ref) (rows.map rowD)
  | _, _, .nil => .nil
  | _, _, .cons h t => .cons (dpRow h) (dpRows t)
theorem dpWish {wa : Addr} {wd : WD} (h : IsWish H wa wd) : Dp K H (.ref wa) (wishD wd) := by
  obtain ⟨pa, ra, rs, h1, h2, h3, h4⟩ := h
  exact .tup (.inl (.inl h1)) (.cons (dpRow h2) (.cons (.tup (.inl (.inl h3)) (dpRows h4)) .nil))
theorem dpWishes : ∀ {was : List Addr} {wds : List WD}, Paired (IsWish H) was wds → DpAll K H (was.map V.ref) (wds.map wishD)
  | _, _, .nil => .nil
  | _, _, .cons h t => .cons (dpWish h) (dpWishes t)
theorem dpRid {ri : Addr} {m h : Int} {wds : List WD} (x : IsRid H ri m h wds) : Dp K H (.ref ri) (ridD m h wds) := by
  obtain ⟨wt, was, h1, h2, h3⟩ := x
  exact .tup (.inl (.inl h1)) (.cons (.int m) (.cons (.int h) (.cons (.tup (.inl (.inl h2)) (dpWishes h3)) .nil)))
end
/-! ### data of this kind is laid, shallow, light and shown -/
/-- a measure of data: laid, at most so deep, at most so heavy, ints short, no dict -/
structure Fine (d : PyData) (n w : Nat) : Prop where
  lay : d.canLay0 = true
  dep : d.depth ≤ n
  wei : d.weight ≤ w
  sho : d.showable = true
  noD : d.hasDict = false
  sh13 : d.intsShort 13 = true
structure FineAll (ds : List PyData) (n w : Nat) : Prop where
  lay : PyData.canLayAll0 ds = true
  dep : PyData.depthAll ds ≤ n
  wei : PyData.weightAll ds ≤ w
  sho : PyData.showableAll ds = true
  noD : PyData.hasDictAll ds = false
  sh13 : PyData.intsShortAll 13 ds = true
theorem FineAll.nil (n : Nat) : FineAll [] n 0 := ⟨rfl, Nat.zero_le _, Nat.le_refl _, rfl, rfl, rfl⟩
theorem FineAll.cons {d : PyData} {ds : List PyData} {n w u : Nat} (h : Fine d n w) (t : FineAll ds n u) : FineAll (d :: ds) n (w + 1 + u) := by
  refine ⟨?_, ?_, ?_, ?_, ?_, ?_⟩
  · simp only [PyData.canLayAll0, h.lay, t.lay, Bool.and_self]
  · have a := h.dep
    have b := t.dep
    simp only [PyData.depthAll]
    omega
  · have a := h.wei
    have b := t.wei
    simp only [PyData.weightAll]
    omega
  · simp only [PyData.showableAll, h.sho, t.sho, Bool.and_self]
  · simp only [PyData.hasDictAll, h.noD, t.noD, Bool.or_self]
  · simp only [PyData.intsShortAll, h.sh13, t.sh13, Bool.and_self]
theorem Fine.tuple {ds : List PyData} {n w : Nat} (t : FineAll ds n w) : Fine (.tuple ds) (n + 1) w := by
  refine ⟨by simp only [PyData.canLay0]; exact t.lay, ?_, by simp only [PyData.weight]; exact t.wei, by simp only [PyData.showable]; exact t.sho, by simp only [PyData.hasDict]; exact t.noD, by simp only [PyData.intsShort]; exact t.sh13⟩
  have a := t.dep
  simp only [PyData.depth]
  omega
theorem Fine.list {ds : List PyData} {n w : Nat} (t : FineAll ds n w) : Fine (.list ds) (n + 1) w := by
  refine ⟨by simp only [PyData.canLay0]; exact t.lay, ?_, by simp only [PyData.weight]; exact t.wei, by simp only [PyData.showable]; exact t.sho, by simp only [PyData.hasDict]; exact t.noD, by simp only [PyData.intsShort]; exact t.sh13⟩
  have a := t.dep
  simp only [PyData.depth]
  omega
theorem Fine.mono {d : PyData} {n w n' w' : Nat} (h : Fine d n w) (a : n ≤ n') (b : w ≤ w') : Fine d n' w' := ⟨h.lay, Nat.le_trans h.dep a, Nat.le_trans h.wei b, h.sho, h.noD, h.sh13⟩
theorem FineAll.mono {d : List PyData} {n w n' w' : Nat} (h : FineAll d n w) (a : n ≤ n') (b : w ≤ w') : FineAll d n' w' := ⟨h.lay, Nat.le_trans h.dep a, Nat.le_trans h.wei b, h.sho, h.noD, h.sh13⟩
theorem fineAll_map {α : Type} {f : α → PyData} {n w : Nat} : ∀ (l : List α), (∀ x ∈ l, Fine (f x) n w) → FineAll (l.map f) n (l.length * (w + 1))
  | [], _ => FineAll.nil n |>.mono (Nat.le_refl _) (Nat.zero_le _)
  | x :: r, h => by
    have t := fineAll_map r fun y hy => h y (List.mem_cons_of_mem _ hy)
    refine (FineAll.cons (h x List.mem_cons_self) t).mono (Nat.le_refl _) ?_
    rw [List.length_cons, Nat.succ_mul]
    omega
theorem fine_int {i : Int} (h0 : 0 ≤ i) (h1 : i < 64) : Fine (.int i) 1 7 := by
  obtain ⟨n, rfl⟩ : ∃ n : Nat, i = n := ⟨i.toNat, by omega⟩
  have hn : n < 64 := by omega
  have hl : n.log2 ≤ 5 := by
    by_cases e : n = 0
    · subst e; decide
    · have := (Nat.log2_lt e).mpr (show n < 2 ^ 6 by omega)
      omega
  refine ⟨rfl, by simp [PyData.depth], ?_, ?_, rfl, ?_⟩
  · simp only [PyData.weight]
    split
    · omega
    · have e : ((n : Int)).natAbs = n := by omega
      rw [e]
      omega
  · simp only [PyData.showable]
    have e : ((n : Int)).natAbs = n := by omega
    rw [e]
    exact decide_eq_true (by omega)
  · have all : ∀ m : Nat, m < 64 → PyData.intsShort 13 (.int (m : Int)) = true := by decide +kernel
    exact all n hn
theorem Fine.shaped {d : PyData} {n w : Nat} (h : Fine d n w) (hn : n ≤ 64) : SeqAt.shaped d = true := by
  show (d.canLay0 && decide (d.depth ≤ 64)) = true
  rw [h.lay, decide_eq_true (Nat.le_trans h.dep hn)]
  rfl
theorem Fine.shows {d : PyData} {n w : Nat} (h : Fine d n w) (hn : n ≤ 64) (hw : w ≤ 1048576) : d.shown.length ≤ sizeLine := by
  have l : d.layable0 = true := by
    show (d.canLay0 && decide (d.depth ≤ 64) && decide (d.weight ≤ 2 ^ 20)) = true
    rw [h.lay, decide_eq_true (Nat.le_trans h.dep hn), decide_eq_true (show d.weight ≤ 2 ^ 20 from Nat.le_trans h.wei (Nat.le_trans hw (by decide)))]
    rfl
  exact Nat.le_trans (shown_le13 l h.sh13) (by decide)
/-! ### equality of rows -/
theorem eqvAll_ints : ∀ a b : List Int, PyData.eqvAll (a.map .int) (b.map .int) = decide (a = b)
  | [], [] => by simp [PyData.eqvAll]
  | [], _ :: _ => by simp [PyData.eqvAll]
  | _ :: _, [] => by simp [PyData.eqvAll]
  | x :: r, y :: q => by
    simp only [List.map_cons, PyData.eqvAll, PyData.eqv, eqvAll_ints r q]
    by_cases h : x = y
    · subst h; simp
    · simp [h]
theorem eqv_row (a b : Row) : PyData.eqv (rowD a) (rowD b) = decide (a = b) := by
  unfold rowD
  rw [PyData.eqv]
  exact eqvAll_ints a b
theorem anyRows (r : Row) : ∀ rows : List Row, ((rows.map rowD).any fun z => PyData.eqv z (rowD r)) = decide (r ∈ rows)
  | [] => by simp
  | x :: q => by
    rw [List.map_cons, List.any_cons, anyRows r q, eqv_row]
    by_cases h : x = r
    · subst h; simp
    · have h2 : ¬ r = x := fun e => h e.symm
      simp [h, h2]
/-! ### what is broken -/
def atF (fs : List Int) (p : Int) : Int := fs.getD p.toNat 0
def huesA (fs ps : List Int) : List Int := ps.map (atF fs)
def brk (fs : List Int) (wd : WD) : Bool := decide (huesA fs wd.1 ∈ wd.2)
def brkAt (fs : List Int) (wds : List WD) (k : Nat) : Bool := match wds[k]? with
  | some wd => brk fs wd
  | none => false
def broL (fs : List Int) (wds : List WD) (i : Nat) : List Int := ((List.range i).filter (brkAt fs wds)).map fun (k : Nat) => (k : Int)
theorem brkAt_of {fs : List Int} {wds : List WD} {k : Nat} {wd : WD} (h : wds[k]? = some wd) : brkAt fs wds k = brk fs wd := by
  unfold brkAt
  rw [h]
theorem broL_yes {fs : List Int} {wds : List WD} {i : Nat} (h : brkAt fs wds i = true) : broL fs wds (i + 1) = broL fs wds i ++ [(i : Int)] := by
  unfold broL
  rw [List.range_succ, List.filter_append, List.map_append]
  simp [h]
theorem broL_no {fs : List Int} {wds : List WD} {i : Nat} (h : brkAt fs wds i = false) : broL fs wds (i + 1) = broL fs wds i := by
  unfold broL
  rw [List.range_succ, List.filter_append, List.map_append]
  simp [h]
theorem broL_len (fs : List Int) (wds : List WD) (i : Nat) : (broL fs wds i).length ≤ i := by
  unfold broL
  rw [List.length_map]
  have q := List.length_filter_le (brkAt fs wds) (List.range i)
  rw [List.length_range] at q
  exact q
theorem broL_mem {fs : List Int} {wds : List WD} {i : Nat} {z : Int} (h : z ∈ broL fs wds i) : 0 ≤ z ∧ z < i := by
  unfold broL at h
  obtain ⟨k, hk, rfl⟩ := List.mem_map.mp h
  have := List.mem_range.mp (List.mem_filter.mp hk).1
  omega
theorem at_some {fs : List Int} {many hues : Int} {p : Int} (h : GoodF many hues fs) (h0 : 0 ≤ p) (h1 : p < many) : fs[p.toNat]? = some (atF fs p) := by
  have hl := h.len
  have hp : p.toNat < fs.length := by omega
  unfold atF
  rw [List.getD_eq_getElem?_getD, List.getElem?_eq_getElem hp]
  rfl
theorem atI_fs {fs : List Int} {many hues : Int} {p : Int} (h : GoodF many hues fs) (h0 : 0 ≤ p) (h1 : p < many) : atI (fs.map V.int) p = some (.int (atF fs p)) := by
  have e : p = ((p.toNat : Nat) : Int) := by omega
  have g : (fs.map V.int)[p.toNat]? = some (.int (atF fs p)) := by rw [List.getElem?_map, at_some h h0 h1]; rfl
  rw [e]
  rw [← e]
  have q := atI_nat g
  rw [← e] at q
  exact q
/-! ### riddles are fine data -/
theorem fine_row {r : Row} (h : ∀ z ∈ r, 0 ≤ z ∧ z < 64) (hl : r.length ≤ 8) : Fine (rowD r) 2 64 :=
  (Fine.tuple (fineAll_map r fun z hz => fine_int (h z hz).1 (h z hz).2)).mono (by omega) (by omega)
theorem fine_wish {many hues : Int} {wd : WD} (g : Good many hues wd) (hm : many ≤ 6) (hh : hues ≤ 4) : Fine (wishD wd) 4 5000 := by
  have a : Fine (rowD wd.1) 2 64 := fine_row (fun z hz => ⟨(g.pl z hz).1, by have := (g.pl z hz).2; omega⟩) (by have := g.three; omega)
  have b : Fine (.tuple (wd.2.map rowD)) 3 4200 := by
    refine (Fine.tuple (fineAll_map wd.2 fun r hr => fine_row (fun z hz => ⟨((g.row r hr).2 z hz).1, by have := ((g.row r hr).2 z hz).2; omega⟩) (by have := (g.row r hr).1; have := g.three; omega))).mono (Nat.le_refl _) ?_
    have := g.few
    omega
  exact (Fine.tuple (FineAll.cons (a.mono (by omega) (Nat.le_refl _)) (FineAll.cons b (FineAll.nil _)))).mono (Nat.le_refl _) (by omega)
theorem fine_rid {many hues : Int} {wds : List WD} (g : GoodR many hues wds) : Fine (ridD many hues wds) 6 50000 := by
  have c : Fine (.tuple (wds.map wishD)) 5 40100 := by
    refine (Fine.tuple (fineAll_map wds fun wd hw => fine_wish (g.each wd hw) g.m6 g.h4)).mono (Nat.le_refl _) ?_
    have := g.eight
    omega
  have m := fine_int (i := many) (by have := g.m1; omega) (by have := g.m6; omega)
  have h := fine_int (i := hues) (by have := g.h2; omega) (by have := g.h4; omega)
  exact (Fine.tuple (FineAll.cons (m.mono (by omega) (Nat.le_refl _)) (FineAll.cons (h.mono (by omega) (Nat.le_refl _)) (FineAll.cons c (FineAll.nil _))))).mono (Nat.le_refl _) (by omega)
theorem fine_fill {many hues : Int} {fs : List Int} (g : GoodF many hues fs) (hm : many ≤ 6) (hh : hues ≤ 4) : Fine (rowD fs) 2 64 :=
  fine_row (fun z hz => ⟨(g.hue z hz).1, by have := (g.hue z hz).2; omega⟩) (by have := g.len; omega)
theorem fine_bro (fs : List Int) (wds : List WD) {i : Nat} (h : i ≤ 8) : Fine (.list ((broL fs wds i).map .int)) 2 64 := by
  refine (Fine.list (fineAll_map (broL fs wds i) fun z hz => fine_int (broL_mem hz).1 (by have := (broL_mem hz).2; omega))).mono (by omega) ?_
  have := broL_len fs wds i
  omega
end Dt

set_option Elab.async false
set_option linter.all false
set_option maxRecDepth 100000
set_option maxHeartbeats 4000000
/-! sorted(xs) of tuples of small ints, any number of them -/
namespace Tt
open PySem PySem.Spec PyProof.Rows L2
def rk (h : Heap) (B : Int) (v : Value) : Int := TS.code B (TS.intsOf h v)
theorem swo_rk (f : Value → Int) : SrtO.Swo fun v u => decide (f v < f u) := by
  refine ⟨fun x y h => ?_, fun x y z h1 h2 => ?_⟩
  · have a := of_decide_eq_true h
    exact decide_eq_false (by omega)
  · have a := of_decide_eq_false h1
    have b := of_decide_eq_false h2
    exact decide_eq_false (by omega)
section
variable {prog : Program} {w : World} {A : Around} {E : Value → Shared → Prop} {s : Shared}
theorem cmp_tups {d : Nat} {B : Int} {vs : List Value} (x : TS.TupsOk s.heap d B vs) (r : Value → Int) (hr : ∀ v, v ∈ vs → ∀ ns, TS.TupInts s.heap v ns → r v = TS.code B ns) :
    SrtO.Cmp prog w A s (tuples' true) (fun p => p.1 ∈ vs) (SrtO.lt2 fun v u => decide (r v < r u)) := by
  intro p q hp hq
  obtain ⟨ns, tp, lp, bp⟩ := x _ hp
  obtain ⟨ms, tq, lq, bq⟩ := x _ hq
  show wpAny (model prog w) A (keyLt' (tuples' true) p.1 q.1) (fun b s' => s' = s ∧ b = decide (r p.1 < r q.1)) (fun _ _ => False) s
  rw [hr _ hp _ tp, hr _ hq _ tq]
  obtain ⟨a, xs, e1, ⟨o, ho, hc, n, hdt⟩, i⟩ := tp
  obtain ⟨a', ys, e2, ⟨o', ho', hc', n', hdt'⟩, i'⟩ := tq
  rw [e1, e2]
  refine PySem.W.kat_lt ho hdt ho' hdt' ?_
  have l1 := i.length
  have l2 := i'.length
  rw [Array.length_toList] at l1 l2
  rw [show decide (xs.size < ys.size) = false from decide_eq_false (by omega)]
  exact TS.lex_ints 0 i i' (by omega) bp bq ⟨rfl, rfl⟩
theorem sortable {a : Addr} {d : Nat} {B : Int} {vs : List Value} (hd : 1 ≤ d) (h2 : 2 ≤ vs.length) (x : TS.TupsOk s.heap d B vs) (ha : ∀ o, s.heap.get? a = some o → o.cls ≠ .type "tuple") (r : Value → Int) (hr : ∀ v, v ∈ vs → ∀ ns, TS.TupInts s.heap v ns → r v = TS.code B ns) :
    SrtO.SortableO prog w A s a vs fun v u => decide (r v < r u) := by
  intro h' keep
  have k2 : ∀ b o, s.heap.get? b = some o → o.cls = .type "tuple" → h'.get? b = some o := fun b o e c => keep b o (fun z => by subst z; exact ha o e c) e
  have x' := x.keeps k2
  obtain ⟨fs, kt, hl, hi⟩ := TS.firsts_of hd vs x'
  refine ⟨tuples' true, fun Q E hq => ?_, cmp_tups (s := { s with heap := h' }) x' r fun v hv ns t => ?_⟩
  · refine PySem.W.kat_kind (T := .type "int") kt (by omega) (fun f hm => ?_) (by rfl) ?_
    · obtain ⟨n, t, rfl⟩ := hi f hm
      exact PySem.W.Looks.of_pure rfl
    · rw [show (Value.type "int" != Value.type "tuple") = true by decide +kernel]
      exact hq
  · obtain ⟨n0, t0, _⟩ := x v hv
    rw [show ns = n0 from t.ints.symm.trans (t0.keeps k2).ints]
    exact hr v hv n0 t0
end
/-- sorted(xs): ts the tuples' places, k what stands at each -/
def rSortedT (K : PySem.W.Frag) : List V → Hp → VK → Prop := fun vs H Q => ∃ (a : Addr) (ts : List Addr) (k : Addr → List Int) (d : Nat) (B : Int), vs = [.ref a] ∧ SqL K H a (ts.map V.ref) ∧ 1 ≤ d ∧ (∀ t ∈ ts, H t = some (.tup ((k t).map V.int)) ∧ (k t).length = d ∧ TS.Bd B (k t)) ∧
  ∀ (ts' : List Addr) (p : Addr), ts'.Perm ts → ts'.Pairwise (fun u v => TS.code B (k u) ≤ TS.code B (k v)) → H p = none → Q (.ref p) (upd H p (.lst (ts'.map V.ref)))
theorem vals_refs : ∀ {ts : List Addr} {us : List Value}, Vals (ts.map V.ref) us → us = ts.map Value.ref
  | [], _, .nil => rfl
  | t :: r, _, .cons h q => by
    cases h
    rw [vals_refs q]
    rfl
theorem refs_vals : ∀ ts : List Addr, Vals (ts.map V.ref) (ts.map Value.ref)
  | [] => .nil
  | t :: r => .cons rfl (refs_vals r)
theorem cr_sortedT {X : Cx} : CallR X (.builtin "sorted") (rSortedT X.K) := by
  intro pins s σ H vs us Q I r h
  obtain ⟨a, ts, k, d, B, rfl, hs, hd, ht, q⟩ := h
  obtain ⟨its, rv, hl, hz⟩ := I.list hs
  obtain ⟨u, rfl, ru⟩ := vals1 r
  cases (show u = Value.ref a from ru)
  obtain rfl := vals_refs rv
  have tup : ∀ t ∈ ts, TS.TupInts s.heap (.ref t) (k t) := fun t hm => by
    obtain ⟨_, its, rr, hT⟩ := I.hok t _ (ht t hm).1
    exact ⟨t, its.toArray, rfl, hT, by simpa using rr.ints⟩
  have ok : TS.TupsOk s.heap d B (ts.map Value.ref) := fun v hv => by
    obtain ⟨t, hm, rfl⟩ := List.mem_map.mp hv
    exact ⟨k t, tup t hm, (ht t hm).2.1, (ht t hm).2.2⟩
  have rk_at : ∀ v ∈ ts.map Value.ref, ∀ ns, TS.TupInts s.heap v ns → rk s.heap B v = TS.code B ns := fun v _ ns t => by
    unfold rk
    rw [t.ints]
  refine SrtO.sorted_ord (swo_rk (rk s.heap B)) hl.isList (by rw [← rv.length]; exact hz) (fun h2 h₁ a' ha' kk => ?_) fun out so sb => ?_
  · have keep : ∀ b o, s.heap.get? b = some o → o.cls = .type "tuple" → h₁.get? b = some o := fun b o e _ => (kk b o e).2
    refine sortable (s := { s with heap := h₁ }) hd h2 (ok.keeps keep) (fun o e c => ?_) (rk s.heap B) fun v hv ns t => ?_
    · have e' := Option.some.inj (e.symm.trans ha')
      rw [e'] at c
      exact absurd (Value.type.inj c) (by decide)
    · obtain ⟨n0, t0, _⟩ := ok v hv
      rw [show ns = n0 from t.ints.symm.trans (t0.keeps keep).ints]
      exact rk_at v hv n0 t0
  · obtain ⟨ep, he⟩ := PyProof.Rows.sortedAll_at s.heap (ts.map Value.ref) out.toArray
    have pm := sb.perm
    obtain ⟨ts', rfl, pt⟩ : ∃ ts' : List Addr, out = ts'.map Value.ref ∧ ts'.Perm ts := by
      have back : ∀ v ∈ out, ∃ t, v = Value.ref t := fun v hv => by
        obtain ⟨t, _, e⟩ := List.mem_map.mp (pm.mem_iff.mp hv)
        exact ⟨t, e.symm⟩
      have g : ∀ l : List Value, (∀ v ∈ l, ∃ t, v = Value.ref t) → ∃ m : List Addr, l = m.map Value.ref := by
        intro l
        induction l with
        | nil => intro _; exact ⟨[], rfl⟩
        | cons v r ih =>
          intro hv
          obtain ⟨t, rfl⟩ := hv v List.mem_cons_self
          obtain ⟨m, rfl⟩ := ih fun z hz => hv z (List.mem_cons_of_mem _ hz)
          exact ⟨t :: m, rfl⟩
      obtain ⟨m, rfl⟩ := g out back
      let f : Value → Addr := fun v => match v with | .ref t => t | _ => 0
      have q2 := pm.map f
      rw [List.map_map, List.map_map] at q2
      have e1 : (f ∘ Value.ref) = id := by funext z; rfl
      rw [e1, List.map_id, List.map_id] at q2
      exact ⟨m, rfl, q2⟩
    refine ⟨.ref (s.heap.objs.size + 1), _, I.laid (t' := s.toks) (o := .lst (ts'.map V.ref)) (fun _ _ => PyProof.Rows.sortedAll_old) (Nat.le_succ _) ⟨?_, ts'.map Value.ref, ep, refs_vals ts', he⟩, rfl, q ts' _ pt ?_ (I.hok.fresh (Nat.le_succ _))⟩
    · rw [List.length_map, pt.length_eq]
      rw [List.length_map] at hz
      exact hz
    · have so2 := List.pairwise_map.mp so
      refine List.Pairwise.imp_of_mem (fun {x y} hx hy h => ?_) so2
      have h2 := of_decide_eq_false h
      unfold rk at h2
      rw [(tup x (pt.mem_iff.mp hx)).ints, (tup y (pt.mem_iff.mp hy)).ints] at h2
      omega
end Tt

set_option Elab.async false
set_option linter.all false
set_option maxRecDepth 100000
set_option maxHeartbeats 4000000
/-! the law's own call: tables of code objects tracked, and no repr under way around it -/
namespace Lg
open PySem PySem.Spec PyProof.Rows L2
/-- the def's body, run where A stands -/
theorem run_at {P : Program} {w : World} {K : PySem.W.Frag} {mg : Str → Option Value} {base : Heap} {k : Nat} {f : Addr} {x qual : Str} {st : Stmt} {fd : FuncData} {N ps : List Str} {A : Around} {outer : List Env} {s : Shared} {H : Hp} {args : Args} {us : List Value} {vs : List V} {Q : VK} {E : XK}
    (F : Fun K x qual st f fd) (S : FnScope N ps (defScope st)) (hr : Room (k + 1) A) (e0 : Env0 P w K mg base A outer s H) (hb : BindsTo s fd args (ps.zip us)) (r : Vals vs us) (hl : vs.length = ps.length)
    (body : ∀ cdv : Value, Room k (A.deeper (envOfC qual (defScope st) s.heap.objs.size f cdv)) → ∃ t, PSs (cxOf CX0 P w K mg base N qual (defScope st) f cdv A outer s H E).nox (defBody st) t ∧ t { nx := fun _ H' => Q .non H', rt := Q } (start N vs) H) :
    codeAny (model P w) A (.call (.ref f) args) (CR CX0 outer P w H s Q E) s := by
  obtain ⟨oc, od, kV, doc, pm, an, cdv, ct, osl, rfl, lk, hcd⟩ := F.ex
  have old : ∀ b o, base.get? b = some o → s.heap.get? b = some o := fun b o e => (e0.bs b o e).1
  have KX := e0.mod.kin.keeps old
  have lim := e0.mod.nolimit.keeps old
  obtain ⟨t, pt, ht⟩ := body cdv (hr.deeper _)
  refine codeAny_call_function hr.depth (KX _ _ lk) rfl S.co S.gen rfl (PySem.W.codeRec_of KX hcd) (hb _ _ _ _ (wpAny_newFunctionEnv_cells S.kind (fun y hy => ?_) fun env he s1 ic => ?_))
  · rcases S.par y.1 (List.of_mem_zip (show (y.1, y.2) ∈ ps.zip us from hy)).1 with z | z
    · exact .inl z
    · exact .inr ⟨z, PySem.W.cellsFrom_some _ _ _ (.inl z)⟩
  · subst he
    refine ⟨lim.keeps ic.toInCall.keep, codeAny_func (wpAny_mono (pt.nox.run [] s1 (start N vs) H _ (inv_start S hr.hd e0 hl r ic) ht) (fun fl s' q => ?_) fun _ _ q => q)⟩
    cases fl with
    | ret u => obtain ⟨v, σ', H', J, rv, q⟩ := q; exact ⟨v, H', J.os, J.bare, J.base, J.hok, rv, q⟩
    | next => obtain ⟨σ', H', J, q⟩ := q; exact ⟨.non, H', J.os, J.bare, J.base, J.hok, rfl, q⟩
    | brk => obtain ⟨_, _, _, q⟩ := q; exact q.elim
    | cont => obtain ⟨_, _, _, q⟩ := q; exact q.elim
/-- the abstract heap at the law's call: the tables, and the script where the top didn't write it -/
def H0 (K : PySem.W.Frag) (T : List Addr) (a : Addr) (o : Obj) (xs : List V) : Hp := fun b => if b ∈ T then some (.tbl #[]) else if b = a ∧ K.lookup a = none then some (.frz o (.lst xs)) else none
theorem H0_three (K : PySem.W.Frag) (T : List Addr) (a : Addr) (o : Obj) (xs : List V) (b : Addr) : (b ∈ T ∧ H0 K T a o xs b = some (.tbl #[])) ∨ (b = a ∧ K.lookup a = none ∧ H0 K T a o xs b = some (.frz o (.lst xs))) ∨ (H0 K T a o xs b = none ∧ b ∉ T) := by
  unfold H0
  by_cases h : b ∈ T
  · exact .inl ⟨h, if_pos h⟩
  · by_cases h2 : b = a ∧ K.lookup a = none
    · exact .inr (.inl ⟨h2.1, h2.2, by rw [if_neg h, if_pos h2]⟩)
    · exact .inr (.inr ⟨by rw [if_neg h, if_neg h2], h⟩)
theorem law_at {P : Program} {w : World} {K : PySem.W.Frag} {mg mb : Str → Option Value} {k : Nat} {fa a : Addr} {cs : List (Addr × Addr)} {x qual : Str} {st : Stmt} {fd : FuncData} {N : List Str} {par : Str} {s : Shared} {vs : List Value} {ns : List Int}
    (KX : K.In s.heap) (hns : s.heap.Ns mainGlobals mg) (hbl : s.heap.Ns builtinsNs mb) (hbb : ∀ x : Str, x ≠ "__name__" → mb x = bootBuiltins x) (hlim : s.heap.NoLimit) (hg : s.gens = #[])
    (hT : ∀ p ∈ cs, s.heap.get? p.2 = some { cls := .none, data := .fields #[] }) (nT : ∀ p ∈ cs, K.lookup p.2 = none) (hC : ∀ p ∈ cs, PySem.W.CodeHd s.heap p.1 p.2)
    (hbm : ∃ (bm : Addr) (ob : Obj), mg "__builtins__" = some (.ref bm) ∧ bm ≠ builtinsNs ∧ s.heap.get? bm = some ob ∧ ob.cls = .type "module" ∧ ob.dict = some builtinsNs ∧ ob.data = .plain)
    (ha : s.heap.get? a = some { cls := .type "list", data := .seq vs.toArray }) (hi : IntsAre vs ns) (hlen : ns.length ≤ sizeLine) (hr : Room (k + 1) callerA)
    (F : Fun K x qual st fa fd) (S : FnScope N [par] (defScope st)) (hb : ∀ (s : Shared) (u : Value), BindsTo s fd ⟨[u], []⟩ [(par, u)])
    (body : ∀ (base : Heap) (H : Hp) (cdv : Value), K.In base → base.Ns mainGlobals mg → (∀ p ∈ cs, GxR.TabB base mg p.1 p.2) → (∀ p ∈ cs, H p.2 = some (.tbl #[])) → SqL K H a (ns.map V.int) → Room k (callerA.deeper (envOfC qual (defScope st) s.heap.objs.size fa cdv)) →
      ∃ t, PSs (cxOf CX0 P w K mg base N qual (defScope st) fa cdv callerA [] s H (fun _ _ _ => False)).nox (defBody st) t ∧ t { nx := fun _ _ => False, rt := fun v _ => v = .bl true } (start N [.ref a]) H) :
    codeAny (model P w) callerA (.call (.ref fa) ⟨[.ref a], []⟩) (fun r s' => r = .ok (.ret (.bool true)) ∧ OldK s.heap s'.heap ∧ s'.os = s.os ∧ AllBare s'.gens) s := by
  have rv := vals_ints hi
  have lv := hi.length
  generalize hso : ({ cls := .type "list", data := .seq vs.toArray } : Obj) = so at ha
  have inT : ∀ b, b ∈ cs.map (·.2) → s.heap.get? b = some { cls := .none, data := .fields #[] } ∧ K.lookup b = none := fun b h => by
    obtain ⟨p, hp, rfl⟩ := List.mem_map.mp h
    exact ⟨hT p hp, nT p hp⟩
  generalize hH : H0 K (cs.map (·.2)) a so (ns.map V.int) = H
  have three := H0_three K (cs.map (·.2)) a so (ns.map V.int)
  rw [hH] at three
  -- an object of another kind isn't tracked
  have clean : ∀ b o, s.heap.get? b = some o → o.data ≠ .fields #[] → (∀ v n, o.data ≠ .seq v n) → H b = none := fun b o e h1 h2 => by
    rcases three b with ⟨z, _⟩ | ⟨z, _, _⟩ | ⟨z, _⟩
    · rw [(inT b z).1] at e; cases e; exact absurd rfl h1
    · rw [z, ha, ← hso] at e; cases e; exact absurd rfl (h2 _ _)
    · exact z
  have low : ∀ b o, s.heap.get? b = some o → o.data ≠ .fields #[] → (∀ v n, o.data ≠ .seq v n) → (hidT s.heap H).get? b = some o := fun b o e h1 h2 => hidT_get e (clean b o e h1 h2)
  have lowNs : ∀ b m, s.heap.Ns b m → (hidT s.heap H).Ns b m := fun b m ⟨o, es, ep, e, d, q⟩ => ⟨o, es, ep, low b o e (by rw [d]; exact fun z => nomatch z) (by rw [d]; exact fun _ _ z => nomatch z), d, q⟩
  have kb : K.In (hidT s.heap H) := fun b o e => hidT_get (KX b o e) (by
    rcases three b with ⟨z, _⟩ | ⟨z, q, _⟩ | ⟨z, _⟩
    · rw [(inT b z).2] at e; cases e
    · rw [z, q] at e; cases e
    · exact z)
  have hok : HOk P w H s.heap := fun b u e => by
    rcases three b with ⟨z, q⟩ | ⟨z, _, q⟩ | ⟨q, _⟩
    · rw [e] at q; cases q; exact (inT b z).1
    · rw [e] at q; cases q; rw [z]; exact ⟨ha, by rw [List.length_map]; exact hlen, vs, 0, rv, by rw [ha, ← hso]⟩
    · rw [e] at q; cases q
  have tb : ∀ p ∈ cs, GxR.TabB (hidT s.heap H) mg p.1 p.2 := fun p hp => by
    refine ⟨?_, ?_, fun z => ?_⟩
    · obtain ⟨o, us, fl, t1, fg, t2, b1, tx, t3, e1, e2, e3, e4, rest⟩ := hC p hp
      exact ⟨o, us, fl, t1, fg, t2, b1, tx, t3, low _ _ e1 (by rw [e3]; intro z; cases z; simp at e4) (by rw [e3]; exact fun _ _ z => nomatch z), e2, e3, e4, rest⟩
    · obtain ⟨bm, ob, m1, m2, m3, m4, m5, m6⟩ := hbm
      refine ⟨bm, ob, m1, m2, fun z => ?_, fun z => ?_, low _ _ m3 (by rw [m6]; exact fun z => nomatch z) (by rw [m6]; exact fun _ _ z => nomatch z), m4, m5, m6⟩
      · obtain ⟨o, es, ep, e, d, _⟩ := hns
        rw [z, e] at m3; cases m3; rw [d] at m6; cases m6
      · rw [z, hT p hp] at m3; cases m3; cases m6
    · obtain ⟨o, es, ep, e, d, _⟩ := hns
      rw [z, hT p hp] at e; cases e; cases d
  have tabH : ∀ p ∈ cs, H p.2 = some (.tbl #[]) := fun p hp => by
    have hm : p.2 ∈ cs.map (·.2) := List.mem_map.mpr ⟨p, hp, rfl⟩
    rcases three p.2 with ⟨_, q⟩ | ⟨z, _, _⟩ | ⟨_, q⟩
    · exact q
    · have e := (inT _ hm).1
      rw [z, ha, ← hso] at e; cases e
    · exact absurd hm q
  have hS : SqL K H a (ns.map V.int) := by
    rcases three a with ⟨z, _⟩ | ⟨_, _, q⟩ | ⟨q, nt⟩
    · have e := (inT a z).1
      rw [ha, ← hso] at e; cases e
    · exact .inl (.inr ⟨so, q⟩)
    · cases e : K.lookup a with
      | none => rw [← hH] at q; unfold H0 at q; rw [if_neg nt, if_pos ⟨rfl, e⟩] at q; cases q
      | some o =>
        have e2 := KX a o e
        rw [ha, ← hso] at e2; cases e2
        exact .inr ⟨_, vs.toArray, _, e, rfl, rfl, rfl, by rw [List.size_toArray, lv]; exact hlen, by simpa using rv⟩
  have e0 : Env0 P w K mg (hidT s.heap H) callerA [] s H := ⟨rfl, ⟨kb, lowNs _ _ hns, ⟨mb, lowNs _ _ hbl, hbb⟩, let ⟨mc, q1, q2⟩ := hlim; ⟨mc, lowNs _ _ q1, q2⟩⟩, fun b o e => of_hidT e, Nat.le_of_eq (hidT_size _ _), trivial, (fun b z => nomatch z), hok, .of_eq hg⟩
  refine codeAny_mono (run_at (vs := [.ref a]) (us := [.ref a]) (Q := fun v _ => v = .bl true) (E := fun _ _ _ => False) F S hr e0 (hb s (.ref a)) (.cons rfl .nil) rfl fun cdv hrm => ?_) fun r s' h => ?_
  · obtain ⟨t, p1, p2⟩ := body _ H cdv kb (lowNs _ _ hns) tb tabH hS hrm
    refine ⟨t, p1, ?_⟩
    have e : (fun (_ : L2.St) (H' : Hp) => (fun (v : V) (_ : Hp) => v = V.bl true) V.non H') = fun _ _ => False := by
      funext _ _
      exact propext ⟨(fun z => nomatch z), fun z => z.elim⟩
    rw [e]
    exact p2
  · match r, h with
    | .ok (.ret u), h =>
      obtain ⟨v, H', os, bare, un, hok', r', q⟩ := h
      obtain rfl : v = .bl true := q
      obtain rfl : u = Value.bool true := r'
      have grown : ∀ p ∈ cs, ∃ more : Array Value, s'.heap.get? p.2 = some { cls := .none, data := .fields more } := fun p hp => by
        obtain ⟨more, z⟩ := un.tbls p.2 #[] (tabH p hp)
        exact ⟨_, hok' p.2 _ z⟩
      have kept : ∀ b o, b ∉ cs.map (·.2) → s.heap.get? b = some o → s'.heap.get? b = some o := fun b o nb e => by
        rcases three b with ⟨z, _⟩ | ⟨z, _, q⟩ | ⟨q, _⟩
        · exact absurd z nb
        · have z2 := hok' b _ (un.frzs b so _ q)
          rw [z, ha] at e
          cases e
          exact z2.1
        · exact un.keep b o e q (by intro z; cases z) (by intro z; cases z)
      refine ⟨rfl, ⟨fun b o e => ?_, fun b o e => ?_⟩, os, bare⟩
      · by_cases hm : b ∈ cs.map (·.2)
        · obtain ⟨p, hp, rfl⟩ := List.mem_map.mp hm
          obtain ⟨more, z⟩ := grown p hp
          rw [hT p hp] at e
          cases e
          exact .inr (.inl ⟨((hC p hp).tab (hT p hp)).isCodeTable, rfl, #[], more, rfl, by rw [Array.empty_append]; exact z⟩)
        · exact .inl (kept b o hm e)
      · by_cases hm : b ∈ cs.map (·.2)
        · obtain ⟨p, hp, rfl⟩ := List.mem_map.mp hm
          obtain ⟨more, z⟩ := grown p hp
          exact ⟨_, z⟩
        · exact ⟨o, kept b o hm e⟩
/-! ### repr of data -/
/-- repr(x), x data -/
theorem call_repr {X : Cx} (hg : X.A.guards = some []) (hu : X.A.units + 64 < cLine) : CallR X (.builtin "repr") (fun xs H Q => ∃ (a : Addr) (d : PyData), xs = [.ref a] ∧ Dp X.K H (.ref a) d ∧ d.showable = true ∧ d.hasDict = false ∧ d.depth < 63 ∧ d.shown.length ≤ sizeLine ∧ Q (.str d.shown) H) := by
  intro pins s σ H xs us Q I r h
  obtain ⟨a, d, rfl, hd, h1, h2, h3, h4, q⟩ := h
  obtain ⟨u, rfl, ru⟩ := vals1 r
  obtain ⟨as, rd⟩ := Dp.reads I d _ u hd ru
  cases (show u = Value.ref a from ru)
  refine repr_of_reads' rd h1 (fun e => by rw [h2] at e; cases e) hg (by omega) (fun _ _ e => e) (fun h' u tk hk => ?_) h4
  exact ⟨.str d.shown, H, I.kept (t' := _) hk, ⟨_, rfl⟩, q⟩
end Lg

set_option Elab.async false
set_option linter.all false
set_option maxRecDepth 100000
set_option maxHeartbeats 4000000
namespace Lg
open PySem PySem.Spec PyProof.Rows L2
/-- the code object and the table of the def named x -/
def TabOf (mg : Str → Option Value) (h : Heap) (x : Str) (p : Addr × Addr) : Prop :=
  ∃ (a : Addr) (o : Obj) (fd : FuncData), mg x = some (.ref a) ∧ h.get? a = some o ∧ o.data = .func fd ∧ fd.code = .ref p.1 ∧ PySem.W.CodeHd h p.1 p.2 ∧ h.get? p.2 = some { cls := .none, data := .fields #[] }
theorem TabOf.code {K : PySem.W.Frag} {mg : Str → Option Value} {h : Heap} {x : Str} {p : Addr × Addr} {f : Addr} {cl : Value} {dd : Option Addr} {fd : FuncData} {sl : Array (Option Value)} (T : TabOf mg h x p) (X : K.In h) (hf : mg x = some (.ref f)) (l : K.lookup f = some ⟨cl, dd, .func fd, sl⟩) : fd.code = .ref p.1 := by
  obtain ⟨a, o, fd', h1, h2, h3, h4, _⟩ := T
  rw [hf] at h1
  cases h1
  rw [X _ _ l] at h2
  cases h2
  cases h3
  exact h4
theorem no_tab {K : PySem.W.Frag} {h : Heap} {P : Addr} (X : K.In h) (hK : PySem.W.noTabs K = true) (e : h.get? P = some { cls := .none, data := .fields #[] }) : K.lookup P = none := by
  cases z : K.lookup P with
  | none => rfl
  | some o =>
    have z2 := X _ _ z
    rw [e] at z2
    cases z2
    exact absurd (show false = true from List.all_eq_true.mp hK (P, _) (PySem.W.mem_of_lookupK z)) Bool.false_ne_true
theorem walk_of {l : PySem.W.OpenLaw} {n k : Nat} {q : Program} {loose : List Str} {XP : (Str → Option Value) → Heap → Prop} {YP : World → Heap → Prop} {d : DefRec} {K : Params → PySem.W.Frag} {x qual par : Str} {st : Stmt} {N : List Str} (names : List Str)
    (hn : l.most = some n) (hn2 : n ≤ sizeLine) (hdf : d.params.defaults = []) (hr : Room (k + 1) callerA) (hrec : (names.all fun y => (recsOf q).any fun e => e.name == y) = true) (hK : ∀ w : World, PySem.W.noTabs (K w.params) = true) (hY : ∀ (w : World) (h : Heap), YP w h → (K w.params).In h) (S : FnScope N [par] (defScope st))
    (F : ∀ (w : World) (mg : Str → Option Value) (fa : Addr) (h : Heap) (tb : Str → Addr × Addr), (K w.params).In h → h.Ns mainGlobals mg → mg d.name = some (.ref fa) → (∀ y ∈ names, TabOf mg h y (tb y)) →
      ∃ fd : FuncData, Fun (K w.params) x qual st fa fd ∧ (∀ (s : Shared) (u : Value), BindsTo s fd ⟨[u], []⟩ [(par, u)]) ∧ ∀ (base : Heap) (H : Hp) (cdv : Value) (a : Addr) (ns : List Int) (s : Shared), (K w.params).In base → base.Ns mainGlobals mg → (∀ y ∈ names, GxR.TabB base mg (tb y).1 (tb y).2) → (∀ y ∈ names, H (tb y).2 = some (.tbl #[])) → ns.length ≤ n → (∀ z ∈ ns, Builtin.Int.intBits z ≤ 1048576) → SqL (K w.params) H a (ns.map V.int) → Room k (callerA.deeper (envOfC qual (defScope st) s.heap.objs.size fa cdv)) →
        ∃ t, PSs (cxOf CX0 l.prog w (K w.params) mg base N qual (defScope st) fa cdv callerA [] s H (fun _ _ _ => False)).nox (defBody st) t ∧ t { nx := fun _ _ => False, rt := fun v _ => v = .bl true } (start N [.ref a]) H) :
    PySem.W.WalkO q loose XP YP l.row.toRowW d [] (fun f vs => PySem.call f vs) := by
  refine Att.attach_callB hn hdf fun w s₀ s₁ mg mb fa o pm cd doc a vs ns G Y ho hd hcd hmg hobj hints hlen hbits hg => ?_
  have KX := hY w _ Y
  have ex : ∀ y : Str, ∃ p : Addr × Addr, y ∈ names → TabOf mg s₁.heap y p := fun y => by
    by_cases hy : y ∈ names
    · obtain ⟨dL, hm, hn1⟩ := List.any_eq_true.mp (List.all_eq_true.mp hrec y hy)
      have hn2 : dL.name = y := beq_iff_eq.mp hn1
      obtain ⟨a', o', fd', c', P', h1, h2, h3, h4, h5, h6⟩ := G.T.tab dL hm
      rw [hn2] at h1
      exact ⟨(c', P'), fun _ => ⟨a', o', fd', h1, h2, h3, h4, PySem.W.CodeHd.of h5 h6, h6.2⟩⟩
    · exact ⟨(0, 0), fun z => absurd z hy⟩
  have tbx : ∃ tb : Str → Addr × Addr, ∀ y ∈ names, TabOf mg s₁.heap y (tb y) := ⟨fun y => Classical.choose (ex y), fun y => Classical.choose_spec (ex y)⟩
  obtain ⟨tb, ht⟩ := tbx
  obtain ⟨fd, hF, hb, body⟩ := F w mg fa _ tb KX G.T.g hmg ht
  have cm : ∀ p ∈ names.map tb, ∃ y ∈ names, tb y = p := fun p hp => List.mem_map.mp hp
  refine law_at (cs := names.map tb) KX G.T.g G.T.b G.T.builtins G.T.nolimit hg (fun p hp => ?_) (fun p hp => ?_) (fun p hp => ?_) G.T.bmain hobj hints (Nat.le_trans hlen hn2) hr hF S hb fun base H cdv kb gn tB tH hS hrm => body base H cdv a ns s₁ kb gn (fun y hy => tB _ (List.mem_map_of_mem hy)) (fun y hy => tH _ (List.mem_map_of_mem hy)) hlen hbits hS hrm
  · obtain ⟨y, hy, rfl⟩ := cm p hp
    obtain ⟨_, _, _, _, _, _, _, _, z⟩ := ht y hy
    exact z
  · obtain ⟨y, hy, rfl⟩ := cm p hp
    obtain ⟨_, _, _, _, _, _, _, _, z⟩ := ht y hy
    exact no_tab KX (hK w) z
  · obtain ⟨y, hy, rfl⟩ := cm p hp
    obtain ⟨_, _, _, _, _, _, _, z, _⟩ := ht y hy
    exact z
end Lg

set_option Elab.async false
set_option linter.all false
set_option maxRecDepth 100000
set_option maxHeartbeats 4000000
/-! fillings, counts, clashes: the data -/
namespace Dt
open PySem PySem.Spec PyProof.Rows L2
def longer (hues : Nat) (f : List Int) : List (List Int) := (List.range hues).map fun (h : Nat) => f ++ [(h : Int)]
def fillL (hues : Nat) : Nat → List (List Int)
  | 0 => [[]]
  | n + 1 => (fillL hues n).flatMap (longer hues)
theorem fill_good {hues : Nat} : ∀ {n : Nat} {f : List Int}, f ∈ fillL hues n → f.length = n ∧ ∀ h ∈ f, 0 ≤ h ∧ h < (hues : Int)
  | 0, f, h => by
    cases List.mem_singleton.mp h
    exact ⟨rfl, fun _ z => nomatch z⟩
  | n + 1, f, h => by
    obtain ⟨g, hg, hf⟩ := List.mem_flatMap.mp h
    obtain ⟨k, hk, rfl⟩ := List.mem_map.mp hf
    obtain ⟨l, a⟩ := fill_good hg
    have hk := List.mem_range.mp hk
    refine ⟨by simp [l], fun z hz => ?_⟩
    rcases List.mem_append.mp hz with q | q
    · exact a z q
    · cases List.mem_singleton.mp q
      omega
theorem longer_len (hues : Nat) (f : List Int) : (longer hues f).length = hues := by simp [longer]
theorem flat_len {hues : Nat} : ∀ l : List (List Int), (l.flatMap (longer hues)).length = l.length * hues
  | [] => by simp
  | f :: r => by rw [List.flatMap_cons, List.length_append, longer_len, flat_len r, List.length_cons, Nat.succ_mul, Nat.add_comm]
theorem fill_len (hues : Nat) : ∀ n : Nat, (fillL hues n).length = hues ^ n
  | 0 => by simp [fillL]
  | n + 1 => by rw [fillL, flat_len, fill_len hues n, Nat.pow_succ]
theorem fill_goodF {many hues : Int} (m0 : 0 ≤ many) (h0 : 0 ≤ hues) {f : List Int} (h : f ∈ fillL hues.toNat many.toNat) : GoodF many hues f := by
  obtain ⟨a, b⟩ := fill_good h
  exact ⟨by omega, fun z hz => by have := b z hz; omega⟩
theorem pow_le_4096 {h n : Nat} (hh : h ≤ 4) (hn : n ≤ 6) : h ^ n ≤ 4096 := by
  have a : h ^ n ≤ 4 ^ n := Nat.pow_le_pow_left hh n
  have b : 4 ^ n ≤ 4 ^ 6 := Nat.pow_le_pow_right (by decide) hn
  have c : (4 : Nat) ^ 6 = 4096 := by decide
  omega
/-! ### counts -/
def bump (ns : List Int) (i : Nat) : List Int := ns.set i (ns.getD i 0 + 1)
def cnt0 (wds : List WD) : List Int := List.replicate (wds.length + 1) 0
def cntL (wds : List WD) (fss : List (List Int)) : List Int := fss.foldl (fun ns f => bump ns (broL f wds wds.length).length) (cnt0 wds)
theorem cnt_snoc (wds : List WD) (fss : List (List Int)) (f : List Int) : cntL wds (fss ++ [f]) = bump (cntL wds fss) (broL f wds wds.length).length := by
  unfold cntL
  rw [List.foldl_append]
  rfl
theorem bump_len (ns : List Int) (i : Nat) : (bump ns i).length = ns.length := by simp [bump]
theorem foldl_len (wds : List WD) : ∀ (fss : List (List Int)) (ns : List Int), (fss.foldl (fun ns f => bump ns (broL f wds wds.length).length) ns).length = ns.length
  | [], _ => rfl
  | f :: r, ns => by rw [List.foldl_cons, foldl_len wds r, bump_len]
theorem cnt_len (wds : List WD) (fss : List (List Int)) : (cntL wds fss).length = wds.length + 1 := by
  unfold cntL
  rw [foldl_len]
  simp [cnt0]
theorem bump_mem {ns : List Int} {i : Nat} {b : Int} (h : ∀ z ∈ ns, 0 ≤ z ∧ z ≤ b) (hb : 0 ≤ b) : ∀ z ∈ bump ns i, 0 ≤ z ∧ z ≤ b + 1 := fun z hz => by
  unfold bump at hz
  rcases List.mem_or_eq_of_mem_set hz with q | q
  · have := h z q; omega
  · subst q
    rw [List.getD_eq_getElem?_getD]
    cases e : ns[i]? with
    | none => simp; omega
    | some x => have := h x (List.mem_of_getElem? e); simp; omega
theorem foldl_mem (wds : List WD) : ∀ (fss : List (List Int)) (ns : List Int) (b : Int), 0 ≤ b → (∀ z ∈ ns, 0 ≤ z ∧ z ≤ b) → ∀ z ∈ fss.foldl (fun ns f => bump ns (broL f wds wds.length).length) ns, 0 ≤ z ∧ z ≤ b + fss.length
  | [], _, b, _, h => fun z hz => by have := h z hz; simp; omega
  | f :: r, ns, b, hb, h => fun z hz => by
    have := foldl_mem wds r (bump ns (broL f wds wds.length).length) (b + 1) (by omega) (bump_mem h hb) z hz
    rw [List.length_cons]
    omega
theorem cnt_mem (wds : List WD) (fss : List (List Int)) : ∀ z ∈ cntL wds fss, 0 ≤ z ∧ z ≤ fss.length := fun z hz => by
  have := foldl_mem wds fss (cnt0 wds) 0 (by omega) (fun z hz => by
    have := List.eq_of_mem_replicate hz
    omega) z hz
  omega
theorem bump_eq {ns : List Int} {i : Nat} {x : Int} (h : ns[i]? = some x) : bump ns i = ns.set i (x + 1) := by
  unfold bump
  rw [List.getD_eq_getElem?_getD, h]
  rfl
/-! ### clashes -/
def clB (a b : WD) : Bool := a.1.any fun p => decide (p ∈ b.1)
theorem clB_comm (a b : WD) : clB a b = clB b a := by
  rw [Bool.eq_iff_iff]
  unfold clB
  simp only [List.any_eq_true, decide_eq_true_eq]
  exact ⟨fun ⟨x, h1, h2⟩ => ⟨x, h2, h1⟩, fun ⟨x, h1, h2⟩ => ⟨x, h2, h1⟩⟩
def clAt (wds : List WD) (a : WD) (k : Nat) : Bool := match wds[k]? with
  | some wd => clB a wd
  | none => false
def clsL (wds : List WD) (a : WD) (i : Nat) : List Int := ((List.range i).filter (clAt wds a)).map fun (k : Nat) => (k : Int)
theorem clAt_of {wds : List WD} {a wd : WD} {k : Nat} (h : wds[k]? = some wd) : clAt wds a k = clB a wd := by
  unfold clAt
  rw [h]
theorem clsL_yes {wds : List WD} {a : WD} {i : Nat} (h : clAt wds a i = true) : clsL wds a (i + 1) = clsL wds a i ++ [(i : Int)] := by
  unfold clsL
  rw [List.range_succ, List.filter_append, List.map_append]
  simp [h]
theorem clsL_no {wds : List WD} {a : WD} {i : Nat} (h : clAt wds a i = false) : clsL wds a (i + 1) = clsL wds a i := by
  unfold clsL
  rw [List.range_succ, List.filter_append, List.map_append]
  simp [h]
theorem clsL_len (wds : List WD) (a : WD) (i : Nat) : (clsL wds a i).length ≤ i := by
  unfold clsL
  rw [List.length_map]
  have q := List.length_filter_le (clAt wds a) (List.range i)
  rw [List.length_range] at q
  exact q
theorem clsL_mem {wds : List WD} {a : WD} {i : Nat} {z : Int} (h : z ∈ clsL wds a i) : 0 ≤ z ∧ z < i := by
  unfold clsL at h
  obtain ⟨k, hk, rfl⟩ := List.mem_map.mp h
  have := List.mem_range.mp (List.mem_filter.mp hk).1
  omega
def clsAll (wds : List WD) : List (List Int) := wds.map fun wd => clsL wds wd wds.length
/-! ### fine data -/
theorem short_int (m : Nat) (h : m < 10 ^ 10) : PyData.intsShort 13 (.int (m : Int)) = true := by
  have e := (Nat.length_repr_le_iff (n := m) (by decide : 0 < 10)).mpr h
  show decide ((Str.ofString (Nat.repr m)).length ≤ 13) = true
  rw [decide_eq_true_eq, Str.ofString_eq_toList]
  have z : (Str.mk ((Nat.repr m).toList.map Char.toNat).toArray).length = (Nat.repr m).length := by
    show ((Nat.repr m).toList.map Char.toNat).toArray.size = _
    rw [List.size_toArray, List.length_map, String.length_toList]
  omega
theorem fine_intM {i : Int} (h0 : 0 ≤ i) (h1 : i < 5000) : Fine (.int i) 1 14 := by
  obtain ⟨n, rfl⟩ : ∃ n : Nat, i = n := ⟨i.toNat, by omega⟩
  have hn : n < 5000 := by omega
  have hl : n.log2 ≤ 12 := by
    by_cases e : n = 0
    · subst e; decide
    · have := (Nat.log2_lt e).mpr (show n < 2 ^ 13 by omega)
      omega
  refine ⟨rfl, by simp [PyData.depth], ?_, ?_, rfl, short_int n (by omega)⟩
  · simp only [PyData.weight]
    split
    · omega
    · have e : ((n : Int)).natAbs = n := by omega
      rw [e]
      omega
  · simp only [PyData.showable]
    have e : ((n : Int)).natAbs = n := by omega
    rw [e]
    exact decide_eq_true (by omega)
theorem fine_ints {ns : List Int} (h : ∀ z ∈ ns, 0 ≤ z ∧ z < 5000) : Fine (.list (ns.map .int)) 2 (ns.length * 15) :=
  (Fine.list (fineAll_map ns fun z hz => fine_intM (h z hz).1 (h z hz).2)).mono (by omega) (by omega)
def listsD (ls : List (List Int)) : PyData := .list (ls.map fun l => .list (l.map .int))
theorem fine_lists {ls : List (List Int)} (hl : ls.length ≤ 300) (h : ∀ l ∈ ls, l.length ≤ 20 ∧ ∀ z ∈ l, 0 ≤ z ∧ z < 5000) : Fine (listsD ls) 3 100000 := by
  refine (Fine.list (fineAll_map (n := 2) (w := 300) ls fun l hl => (fine_ints (h l hl).2).mono (Nat.le_refl _) (by have := (h l hl).1; omega))).mono (by omega) (by omega)
end Dt

set_option Elab.async false
set_option linter.all false
set_option maxRecDepth 100000
set_option maxHeartbeats 4000000
/-! elements of generator expressions: x in f[0] -/
namespace Gv
open PySem PySem.Spec PyProof.Rows L2
variable {X : Cx} {pins : List (Addr × Obj)} {σ : L2.St}
theorem reads_ints (h : Heap) : ∀ (ns : List Int) (us : List Value), Vals (ns.map V.int) us → ∃ as, ReadsAll h us (ns.map PyData.int) as
  | [], _, r => by cases r; exact ⟨_, .nil⟩
  | n :: q, _, r => by
    cases r with
    | cons r1 r2 =>
      obtain ⟨as, z⟩ := reads_ints h q _ r2
      obtain ⟨t, rfl⟩ := r1
      exact ⟨_, .cons (.int n t) z⟩
theorem canAll_ints : ∀ ns : List Int, PyData.canLayAll0 (ns.map PyData.int) = true
  | [] => rfl
  | n :: q => by simp only [List.map_cons, PyData.canLayAll0, PyData.canLay0, canAll_ints q, Bool.and_self]
theorem any_ints (n : Int) : ∀ ns : List Int, ((ns.map PyData.int).any fun y => PyData.eqv y (.int n)) = decide (n ∈ ns)
  | [] => by simp
  | m :: q => by
    rw [List.map_cons, List.any_cons, any_ints n q]
    by_cases e : m = n
    · subst e; simp [PyData.eqv]
    · have e2 : ¬ n = m := fun z => e z.symm
      simp [PyData.eqv, e, e2]
theorem elt_in0 {f x : Str} {scope : Scope} {P fa pa : Addr} {H1 : Hp} {xs ys zs : List V} {ns : List Int} {j jj : Nat} {p1 p2 p3 p4 p5 : Pos} (hk : scope.kind = .function) (hx : scope.names.lookup x = some .local) (hf : scope.names.lookup f = some .free)
    (hcl : (cloFrom X.env.cells scope.names []).lookup f = some ((X.env.cells.lookup f).getD 0)) (hj : X.N[j]? = some f) (hkf : X.env.kindOf f = some .cell) (hσ : σ[j]? = some (some (.ref fa))) (hq : SqT X.K H1 fa (.ref pa :: zs)) (hp : SqT X.K H1 pa (ns.map V.int)) (hT : GxR.TabG H1 P) (hu : X.A.units + 64 < cLine)
    (hv : ∀ (i : Nat) x0, xs[i]? = some x0 → ∃ (n : Int), x0 = .int n ∧ ys[i]? = some (.bl (decide (n ∈ ns)))) (hdf : (f == ("__debug__" : Str)) = false := by decide) (hdx : (x == ("__debug__" : Str)) = false := by decide) (hcf : (f == ("__classdict__" : Str)) = false := by decide) :
    EltV X pins σ scope x (.Compare (.Name x p1) [.In] [.Subscript (.Name f p2) (.Constant (.int 0) jj p3) p4] p5) P H1 xs ys := by
  intro s1 t C code bi A' E' i x0 u m I hA hU hx0 ru hn hm hkp
  obtain ⟨n, rfl, hy⟩ := hv i x0 hx0
  obtain ⟨tk, rfl⟩ := (show ∃ t, u = Value.int n t from ru)
  obtain ⟨ps, hP, _⟩ := hT
  have tabS : s1.heap.get? P = some { cls := .none, data := .fields ps } := I.hok P _ hP
  obtain ⟨m1, _, hl⟩ := I.loc
  obtain ⟨uf, rf, lk⟩ := hl j f _ hj hσ (.inr (.inl hkf))
  cases (show uf = Value.ref fa from rf)
  obtain ⟨c, hc, ic⟩ : ∃ c, X.env.cells.lookup f = some c ∧ s1.heap.IsCell c (some (.ref fa)) := by
    rcases lk with ⟨z, _⟩ | ⟨_, c, hc, ic⟩
    · rw [hkf] at z; cases z
    · exact ⟨c, hc, ic⟩
  have ic2 : t.heap.IsCell c (some (.ref fa)) := by
    obtain ⟨o, ho, hd⟩ := ic
    refine ⟨o, hkp c o (fun z => ?_) ho, hd⟩
    rw [z, tabS] at ho
    cases ho
    cases hd
  have tup2 : ∀ {a : Addr} {its : Array Value}, IsTup s1.heap a its → IsTup t.heap a its := fun {a its} pl => by
    obtain ⟨o, ho, hcl', nn, hd⟩ := pl
    refine ⟨o, hkp a o (fun z => ?_) ho, hcl', nn, hd⟩
    rw [z, tabS] at ho
    cases ho
    cases hd
  obtain ⟨its, rv, pl, hz⟩ := I.tuple hq
  have pl2 := tup2 pl
  obtain ⟨its2, rv2, plb, hz2⟩ := I.tuple hp
  have plb2 := tup2 plb
  have clf : (genEnv scope (cloFrom X.env.cells scope.names []) C code bi X.env).cells.lookup f = some c := by
    show (cloFrom X.env.cells scope.names []).lookup f = some c
    rw [hcl, hc]
    rfl
  have hat0 : atI (.ref pa :: zs) 0 = some (.ref pa) := atI_nat (j := 0) rfl
  obtain ⟨j2, h1, h2, h3, h4, h5⟩ := atI_get hat0
  obtain ⟨wv, ew, rw'⟩ := rv.get h2
  cases (show wv = Value.ref pa from rw')
  have hlen := rv.length
  refine wpAny_Compare1 ?_
  refine wpAny_Name (wpAny_loadName_local hk hx hn hm ?_) hdx
  refine Subscript_ (wpAny_Name (wpAny_loadName_free hk hf clf ic2 ?_ hcf) hdf)
  refine wpAny_Constant_int ?_
  refine subscriptTail_builtinR (x := Value.ref pa) (show IsTup { t with toks := t.toks + 1 }.heap fa its.toArray from pl2).typeIs slot_tuple_getitem.lookup
    (getItem_tuple (j := j2) (show IsTup { t with toks := t.toks + 1 }.heap fa its.toArray from pl2) (by decide) (by decide) (by rw [List.size_toArray, ← hlen]; exact h1) (by simpa using ew) ⟨rfl, ?_⟩) (by rfl)
  obtain ⟨as, ra⟩ := reads_ints t.heap ns its2 rv2
  obtain ⟨o, ho, hcl', nn, hd⟩ := plb2
  refine PySem.SeqAt.in_tuple_reads (xs := ns.map PyData.int) (d := .int n) (.tuple (h := t.heap) ho hcl' hd (by simpa using ra)) (.int n tk) (canAll_ints ns) rfl ?_ ⟨⟨_, hy, ?_⟩, GxR.keeps_tok _ _⟩
  · have : min (PyData.depthAll (ns.map PyData.int)) (PyData.int n).depth ≤ 1 := Nat.le_trans (Nat.min_le_right _ _) (by simp [PyData.depth])
    omega
  · rw [any_ints]
    rfl
end Gv

set_option Elab.async false
set_option linter.all false
set_option maxRecDepth 100000
set_option maxHeartbeats 4000000
/-! comprehensions with two fors: the loops; an item of a list, by values -/
namespace Cp
open PySem PySem.Spec PyProof.Rows L2
theorem lc2_list {K : PySem.W.Frag} {a : Addr} {xs : List V} {g : TG} {tt : TT} {B : L2.St → Hp → (Hp → Prop) → Prop} {vs : List Nat} {σ : L2.St} {H1 : Hp} {D : Addr} {Qd : Hp → Prop} (Pv : Nat → Hp → Prop) (h0 : Pv 0 (upd H1 D (.lst []))) (hl : ∀ i H, i ≤ xs.length → Pv i H → SqL K H a xs)
    (hs : ∀ i x H, xs[i]? = some x → Pv i H → g x (wipe σ vs) H fun σ2 H2 => wipe σ2 vs = wipe σ vs ∧ tt σ2 H2 fun b H3 => if b = true then B σ2 H3 (Pv (i + 1)) else Pv (i + 1) H3) (hd : ∀ H, Pv xs.length H → Qd H) :
    ∃ W : Nat → Nat → Hp → Prop, (∃ m, W 0 m (upd H1 D (.lst []))) ∧ ∀ i m H, W i m H →
      ((Itl K a).stop i H ∧ Qd H) ∨ ((Itl K a).go i H ∧ ∃ Nx : Hp → Prop, (∀ H', Nx H' → ∃ m', m' < m ∧ W (i + 1) m' H') ∧ ∀ x H', (Itl K a).yld i H x H' → g x (wipe σ vs) H' fun σ2 H2 => wipe σ2 vs = wipe σ vs ∧ tt σ2 H2 fun b H3 => if b = true then B σ2 H3 Nx else Nx H3) := by
  refine ⟨fun i m H => m = xs.length - i ∧ i ≤ xs.length ∧ Pv i H, ⟨xs.length, by simp, Nat.zero_le _, h0⟩, ?_⟩
  rintro i m H ⟨rfl, hi, p⟩
  have q := hl i H hi p
  by_cases hlt : i < xs.length
  · refine .inr ⟨⟨xs, xs[i], q, by simp [hlt]⟩, Pv (i + 1), fun H' p' => ⟨xs.length - (i + 1), by omega, rfl, hlt, p'⟩, fun x H' y => ?_⟩
    obtain ⟨e, y⟩ := y
    subst e
    exact hs i x _ (y xs q) p
  · have e : i = xs.length := by omega
    subst e
    exact .inl ⟨⟨xs, q, by simp⟩, hd H p⟩
theorem lcin_range {lo : Int} {n : Nat} {g : TG} {tt : TT} {te : TE} {vs : List Nat} {σ : L2.St} {H4 : Hp} {D : Addr} {Qd : Hp → Prop} (Pv : Nat → Hp → Prop) (h0 : Pv 0 H4)
    (hs : ∀ i H, i < n → Pv i H → g (.int (lo + i)) (wipe σ vs) H fun σ2 H2 => wipe σ2 vs = wipe σ vs ∧ tt σ2 H2 fun b H3 =>
      if b = true then te σ2 H3 fun y H4 => ∃ acc, H4 D = some (.lst acc) ∧ acc.length < sizeLine ∧ Pv (i + 1) (upd H4 D (.lst (acc ++ [y]))) else Pv (i + 1) H3) (hd : ∀ H, Pv n H → Qd H) :
    ∃ W : Nat → Nat → Hp → Prop, (∃ m, W 0 m H4) ∧ ∀ i m H, W i m H →
      ((Itr lo n).stop i H ∧ Qd H) ∨ ((Itr lo n).go i H ∧ ∃ Nx : Hp → Prop, (∀ H', Nx H' → ∃ m', m' < m ∧ W (i + 1) m' H') ∧ ∀ x H', (Itr lo n).yld i H x H' → g x (wipe σ vs) H' fun σ2 H2 => wipe σ2 vs = wipe σ vs ∧ tt σ2 H2 fun b H3 =>
        if b = true then te σ2 H3 fun y H4 => ∃ acc, H4 D = some (.lst acc) ∧ acc.length < sizeLine ∧ Nx (upd H4 D (.lst (acc ++ [y]))) else Nx H3) := by
  refine ⟨fun i m H => m = n - i ∧ i ≤ n ∧ Pv i H, ⟨n, by simp, Nat.zero_le _, h0⟩, ?_⟩
  rintro i m H ⟨rfl, hi, p⟩
  by_cases hlt : i < n
  · refine .inr ⟨hlt, Pv (i + 1), fun H' p' => ⟨n - (i + 1), by omega, rfl, hlt, p'⟩, fun x H' y => ?_⟩
    obtain ⟨e, y⟩ := y
    subst e y
    exact hs i _ hlt p
  · have e : i = n := by omega
    subst e
    exact .inl ⟨Nat.le_refl _, hd H p⟩
/-- xs[k], k from 0 on -/
def rIxN (K : PySem.W.Frag) : V → V → Hp → VK → Prop := fun x y H Q => ∃ (p : Addr) (xs : List V) (k : Nat) (v : V), x = .ref p ∧ y = .int k ∧ SqL K H p xs ∧ xs[k]? = some v ∧ Q v H
theorem pget_list {X : Cx} : PGet X (rIxN X.K) := by
  intro pins s σ H o i ov iv Q I ro ri h
  obtain ⟨p, xs, k, z, rfl, rfl, hq, he, q⟩ := h
  cases ro
  obtain ⟨t, rfl⟩ := ri
  obtain ⟨its, r, pl, hz⟩ := I.list hq
  obtain ⟨w, ew, rw'⟩ := r.get he
  have hl := r.length
  have hn := line63
  have hk := (List.getElem?_eq_some_iff.mp he).1
  exact wpAny_getItem_list pl.isList (by omega) (by omega) (by simpa using ew) ⟨z, H, I, rw', q⟩
end Cp

set_option Elab.async false
set_option linter.all false
set_option maxRecDepth 100000
set_option maxHeartbeats 4000000
namespace Rd
open PySem PySem.Spec PyProof.Rows L2
def topS (i : Nat) : Stmt := PySem.Challenge.pw_redraw_k03_counts_and_clashes.main.body.getD i (.Pass ⟨0, 0, 0, 0⟩)
abbrev sWell : Stmt := topS 9
abbrev sDraw : Stmt := topS 10
abbrev nWell : List Str := ["script", "seed", "cell"]
abbrev nDraw : List Str := ["well", "many", "cell", "found"]
theorem scWell : FnScope nWell ["script"] (defScope sWell) := ⟨rfl, rfl, rfl, by decide +kernel, rfl, by decide +kernel, by decide +kernel⟩
theorem scDraw : FnScope nDraw ["well", "many"] (defScope sDraw) := ⟨rfl, rfl, rfl, by decide +kernel, rfl, by decide +kernel, by decide +kernel⟩

/-! ### numbers -/
def CPowW (i j : Int) : Prop := 0 ≤ j ∧ (Builtin.Int.intBits i : Int) * j ≤ 2 ^ 27
theorem op_powW {X : Cx} : OpR X (binaryOp .Pow) (rI CPowW fun i j => .int (i ^ j.toNat)) := opI fun _ _ _ _ _ _ _ hc q => pow_int hc.1 hc.2 q
theorem abs_of_bits {a : Int} {n : Nat} (h : Builtin.Int.intBits a ≤ n) : a.natAbs < 2 ^ n := by
  unfold Builtin.Int.intBits at h
  by_cases e : a = 0
  · subst e
    exact Nat.two_pow_pos n
  · have e2 : a.natAbs ≠ 0 := by omega
    have h2 : a.natAbs.log2 + 1 ≤ n := by
      split at h
      · rename_i q
        simp at q
        exact absurd q e
      · exact h
    exact Nat.lt_of_lt_of_le Nat.lt_log2_self (Nat.pow_le_pow_right (by decide) h2)
theorem mix_bits {sd c : Int} {n : Nat} (h0 : 0 ≤ sd) (h1 : sd ≤ 2147483629) (hc : Builtin.Int.intBits c ≤ n) (hn : 47 ≤ n) : Builtin.Int.intBits (sd * 50021 + c) ≤ n + 1 := by
  refine intBits_le ?_
  have a := abs_of_bits hc
  have b : (140737488355328 : Nat) ≤ 2 ^ n := Nat.le_trans (by decide : (140737488355328 : Nat) ≤ 2 ^ 47) (Nat.pow_le_pow_right (by decide) hn)
  rw [Nat.pow_succ]
  generalize (2 : Nat) ^ n = m at a b
  omega

/-! ### the well -/
structure WellC (cs : List Int) (b c : Int) : Prop where
  b0 : 0 ≤ b
  c0 : 0 ≤ c
  c1 : c ≤ 2147483647
  nn : ∀ x ∈ cs, 0 ≤ x
def Well (H : Hp) (wl cl : Addr) : Prop := ∃ (cs : List Int) (b c : Int), H wl = some (.lst [.ref cl, .int b, .int c]) ∧ H cl = some (.lst (cs.map V.int)) ∧ WellC cs b c
theorem Well.ne {H : Hp} {wl cl : Addr} (h : Well H wl cl) : wl ≠ cl := by
  obtain ⟨cs, b, c, h1, h2, _⟩ := h
  refine ne_of h1 h2 fun e => ?_
  cases cs with
  | nil => cases e
  | cons x r => cases e
/-- H' is H but for the well -/
def Drawn (wl cl : Addr) (H H' : Hp) : Prop := (∀ b o, b ≠ wl → b ≠ cl → H b = some o → H' b = some o) ∧ Well H' wl cl
theorem same_upd {H : Hp} {p : Addr} {o : HO} (h : H p = none) : Same H (upd H p o) := fun b x e => by
  rw [upd_ne (ne_of_none e h)]
  exact e
def spWell (K : PySem.W.Frag) : Sp := fun vs H Q _ => ∃ (a : Addr) (ns : List Int), vs = [.ref a] ∧ SqL K H a (ns.map V.int) ∧ ns.length ≤ 63 ∧ (∀ z ∈ ns, Builtin.Int.intBits z ≤ 1048576) ∧
  ∀ H' wl cl, Same H H' → H wl = none → H cl = none → Well H' wl cl → Q (.ref wl) H'
def spDraw : Sp := fun vs H Q _ => ∃ (wl cl : Addr) (m : Int), vs = [.ref wl, .int m] ∧ Well H wl cl ∧ 1 ≤ m ∧ m.natAbs.log2 < 9000 ∧
  ∀ H' d, Drawn wl cl H H' → 0 ≤ d → d < m → Q (.int d) H'
section
variable {P : Program} {w : World} {K : PySem.W.Frag} {mg : Str → Option Value} {base : Heap}
theorem ok_well {f : Addr} {fd : FuncData} {k : Nat} (F : Fun K "_law_well" "_law_well" sWell f fd) (mabs : mg "abs" = none) : FnOk P w K mg base CX0 (k + 1) f fd ["script"] (spWell K) := by
  refine F.ok scWell (fun vs H Q E h => ?_) (fun cdv A outer s H vs Q E hr h => ?_)
  · obtain ⟨a, ns, rfl, _⟩ := h
    rfl
  · obtain ⟨a, ns, rfl, hS, hlen, hbits, q⟩ := h
    refine ⟨_, pss_cons (ps_set (i := 1) scWell.nd rfl (.inl rfl) pe_int)
      (pss_cons (ps_for PassesOwn.never rfl (pi_list (pv 0)) (pg_name (i := 2) scWell.nd rfl (.inl rfl))
        (pss_one (ps_set (i := 1) scWell.nd rfl (.inl rfl) (pe_op op_add (pe_op op_mod (pe_op op_powW (pe_op op_add (pe_op op_mul (pv 1) pe_int) (pv 2)) pe_int) pe_int) pe_int))))
      (pss_one (ps_ret (pe_lst (pa_cons (pe_lc (own := [("cell", 2)]) (g := gName 2) (tt := tYes) rfl scWell.nd (pi_list (pv 0)) (blkOk_by (own := [("cell", 2)]) (N := nWell) (sc := defScope sWell) (by decide +kernel))
          (fun _ _ _ _ _ => pg_name (i := 2) scWell.nd rfl (Or.inl rfl)) (fun _ _ _ _ _ => pts_nil) (fun _ _ _ _ _ => pe_callB call_abs (by rfl) mabs (by decide +kernel) (pa_cons (pv 2) pa_nil)))
        (pa_cons pe_int (pa_cons (pv 1) pa_nil))))))), ?_⟩
    refine ⟨.ref a, rfl, a, rfl, ⟨_, hS⟩, for_list (xs := ns.map V.int) (fun i σ H' => ∃ y2 sd, σ = [some (.ref a), some (.int sd), y2] ∧ 0 ≤ sd ∧ sd ≤ 2147483629 ∧ H' = H) ⟨none, 1, rfl, by decide, by decide, rfl⟩ (fun i σ H' _ p => ?_) (fun i x σ H' hx p => ?_) (fun σ H' p => ?_)⟩
    · obtain ⟨_, _, _, _, _, rfl⟩ := p
      exact hS
    · obtain ⟨y2, sd, rfl, h0, h1, rfl⟩ := p
      rw [List.getElem?_map] at hx
      obtain ⟨z, hz, rfl⟩ : ∃ z, ns[i]? = some z ∧ V.int z = x := by
        cases e : ns[i]? with
        | none => rw [e] at hx; cases hx
        | some z => rw [e] at hx; exact ⟨z, rfl, Option.some.inj hx⟩
      have hb := hbits z (List.mem_of_getElem? hz)
      have hm := mix_bits h0 h1 hb (by decide)
      refine ⟨_, rfl, sd, 50021, rfl, rfl, .inl ⟨by omega, by omega⟩, _, rfl, _, _, rfl, rfl, _, _, rfl, rfl, ⟨by decide, by omega⟩, _, _, rfl, rfl, (by show (0 : Int) < 2147483629; decide), _, _, rfl, rfl, ?_⟩
      have g1 := Int.emod_nonneg ((sd * 50021 + z) ^ (3 : Int).toNat) (by decide : (2147483629 : Int) ≠ 0)
      have g2 := Int.emod_lt_of_pos ((sd * 50021 + z) ^ (3 : Int).toNat) (by decide : (0 : Int) < 2147483629)
      exact ⟨_, _, rfl, by omega, by omega, rfl⟩
    · obtain ⟨y2, sd, rfl, h0, h1, rfl⟩ := p
      refine ⟨.ref a, rfl, a, rfl, ⟨_, hS⟩, fun D hD => lc_list (K := K) (a := a) (xs := ns.map V.int) (fun i H1 => H1 D = some (.lst (((ns.take i).map fun z => if z < 0 then -z else z).map V.int)) ∧ Same H' H1 ∧ ∀ b, b ≠ D → H1 b = H' b) ⟨upd_same, same_upd hD, fun b hb => upd_ne hb⟩ (fun i H1 _ p => p.2.1.seq hS) (fun i x H1 hx p => ?_) (fun H1 p => ?_)⟩
      · rw [List.getElem?_map] at hx
        obtain ⟨z, hz, rfl⟩ : ∃ z, ns[i]? = some z ∧ V.int z = x := by
          cases e : ns[i]? with
          | none => rw [e] at hx; cases hx
          | some z => rw [e] at hx; exact ⟨z, rfl, Option.some.inj hx⟩
        refine ⟨rfl, ?_⟩
        dsimp only [tYes]
        rw [if_pos rfl]
        refine ⟨.int z, rfl, z, rfl, _, p.1, ?_, ?_, ?_, ?_⟩
        · rw [List.length_map, List.length_map, List.length_take]
          exact small1000 (by omega)
        · rw [upd_same, List.take_add_one, hz, List.map_append, List.map_append]
          rfl
        · intro b o e
          rw [upd_ne (ne_of_none e hD)]
          exact p.2.1 b o e
        · intro b hb
          rw [upd_ne hb]
          exact p.2.2 b hb
      · obtain ⟨p1, p2, p3⟩ := p
        rw [List.length_map, List.take_length] at p1
        refine ⟨.int sd, rfl, (by show 3 ≤ sizeLine; decide), fun l hl => ?_⟩
        have ne : D ≠ l := ne_of_none p1 hl
        refine q _ l D (p2.trans (same_upd hl)) ?_ hD ⟨_, 0, sd, upd_same, by rw [upd_ne ne]; exact p1, by decide, h0, by omega, ?_⟩
        · exact p2.free hl
        · intro x hx
          obtain ⟨z, _, rfl⟩ := List.mem_map.mp hx
          split <;> omega
theorem dpInts {K : PySem.W.Frag} {H : Hp} : ∀ ns : List Int, DpAll K H (ns.map V.int) (ns.map PyData.int)
  | [] => .nil
  | n :: r => .cons (.int n) (dpInts r)
theorem eqv_nil_cons (z : Int) (r : List Int) : PyData.eqv (.list ((z :: r).map PyData.int)) (.list []) = false := by
  simp [PyData.eqv, PyData.eqvAll]
theorem eqv_nil_nil : PyData.eqv (.list (([] : List Int).map PyData.int)) (.list []) = true := by
  simp [PyData.eqv, PyData.eqvAll]
theorem Well.mk {H : Hp} {wl cl : Addr} {cs : List Int} {b c : Int} (h1 : H wl = some (.lst [.ref cl, .int b, .int c])) (h2 : H cl = some (.lst (cs.map V.int))) (h : WellC cs b c) : Well H wl cl := ⟨cs, b, c, h1, h2, h⟩
theorem ok_draw {f : Addr} {fd : FuncData} {k : Nat} (F : Fun K "_law_draw" "_law_draw" sDraw f fd) : FnOk P w K mg base CX0 (k + 1) f fd ["well", "many"] spDraw := by
  refine F.ok scDraw (fun vs H Q E h => ?_) (fun cdv A outer s H vs Q E hr h => ?_)
  · obtain ⟨wl, cl, m, rfl, _⟩ := h
    rfl
  · obtain ⟨wl, cl, m, rfl, hW, hm, hlog, q⟩ := h
    have hwc := hW.ne
    have pix : ∀ {X : Cx} {a b : Expr} {pos : Pos} {ta tb : TE}, PE X a ta → PE X b tb → PlainIx b → PE X (.Subscript a b pos) (tOp (rIxL X.K) ta tb) := fun ha hb hs => pe_ix ix_list ha hb hs
    refine ⟨_, C8.pss_cut (ps_if (PW.pt (pw_and (pt_cmpR op_eq (pe_ix ix_list (pv 0) pe_int (fun _ _ => rfl)) pe_int (nomark _)) (pw_and1 (pt_cmpR (op_neD hr.units) (pe_ix ix_list (pv 0) pe_int (fun _ _ => rfl)) (pe_lst pa_nil) (nomark _)))))
        (pss_cons (ps_set (i := 2) scDraw.nd rfl (.inl rfl) (pe_bm PySem.F.plainAttrs_list PySem.F.slot_list_pop PySem.F.type_list_pop mt_popAt (pe_ix ix_list (pv 0) pe_int (fun _ _ => rfl)) (pa_cons pe_int pa_nil)))
        (pss_cons (ps_if (pt_cmpR op_lt (pv 2) (pe_op op_pow pe_int pe_int) (nomark _)) (pss_one (ps_ret (pe_op op_mod (pv 2) (pv 1)))) pss_nil)
        (pss_one (ps_asg (pv 2) (pg_sub (pv 0) pe_int set_list))))) pss_nil)
      (pss_cons (ps_if (pt_cmpR op_gt (pe_ix ix_list (pv 0) pe_int (fun _ _ => rfl)) pe_int (nomark _))
        (pss_cons (ps_set (i := 3) scDraw.nd rfl (.inl rfl) (pe_op op_mod (pe_ix ix_list (pv 0) pe_int (fun _ _ => rfl)) (pv 1)))
        (pss_cons (ps_asg (pe_op op_fdivW (pe_ix ix_list (pv 0) pe_int (fun _ _ => rfl)) (pv 1)) (pg_sub (pv 0) pe_int set_list))
        (pss_one (ps_ret (pv 3))))) pss_nil)
      (pss_cons (ps_asg (pe_op op_mod (pe_op op_add (pe_op op_mul (pe_ix ix_list (pv 0) pe_int (fun _ _ => rfl)) pe_int) pe_int) pe_int) (pg_sub (pv 0) pe_int set_list))
      (pss_one (ps_ret (pe_op op_mod (pe_op op_fdiv (pe_op op_mod (pe_op op_pow (pe_op op_mod (pe_op op_pow (pe_ix ix_list (pv 0) pe_int (fun _ _ => rfl)) pe_int) pe_int) pe_int) pe_int) pe_int) (pv 1)))))), ?_⟩
    refine ⟨fun σ H' => Drawn wl cl H H' ∧ ∃ y2 y3, σ = [some (.ref wl), some (.int m), y2, y3], ?_, ?_⟩
    · obtain ⟨cs, b, c, h1, h2, hc⟩ := hW
      refine ⟨.ref wl, rfl, wl, _, 1, _, rfl, rfl, .inl (.inl h1), rfl, rfl, _, rfl, ?_⟩
      refine ite2 (fun e => ?_) (fun e => ?_)
      · refine ⟨.ref wl, rfl, wl, _, 0, _, rfl, rfl, .inl (.inl h1), rfl, (by show 0 ≤ sizeLine; decide), fun p hp => ?_⟩
        have np1 : wl ≠ p := ne_of_none h1 hp
        have np2 : cl ≠ p := ne_of_none h2 hp
        have g1 : upd H p (.lst []) wl = some (.lst [.ref cl, .int b, .int c]) := by rw [upd_ne np1]; exact h1
        have g2 : upd H p (.lst []) cl = some (.lst (cs.map V.int)) := by rw [upd_ne np2]; exact h2
        refine ⟨.list (cs.map .int), .list [], .lst (.inl (.inl g2)) (dpInts cs), .lst (.inl (.inl upd_same)) .nil, PySem.W.shaped_ints cs, PySem.W.shaped_ints [], _, rfl, ?_⟩
        cases cs with
        | nil =>
          rw [eqv_nil_nil]
          refine iteF ?_
          exact ⟨⟨fun b' o n1 n2 e => same_upd hp _ _ e, [], b, c, g1, g2, hc⟩, none, none, rfl⟩
        | cons z r =>
          rw [eqv_nil_cons]
          refine iteT ?_
          have hz : 0 ≤ z := hc.nn z List.mem_cons_self
          refine ⟨.ref wl, rfl, wl, _, 0, _, rfl, rfl, .inl (.inl g1), rfl, .inl ⟨rfl, _, .inl (.inl g2)⟩, cl, _, 0, 0, .int z, rfl, rfl, g2, by decide, by decide, seqIndex_of (by decide) (by simp <;> omega), rfl, ?_⟩
          refine ⟨.int z, rfl, 10, 18, rfl, rfl, ⟨by decide, by decide, by decide⟩, _, _, rfl, rfl, _, rfl, ?_⟩
          have k1 : ∀ o, upd (upd H p (.lst [])) cl o wl = some (.lst [.ref cl, .int b, .int c]) := fun o => by rw [upd_ne hwc]; exact g1
          have kd : ∀ o b' o', b' ≠ wl → b' ≠ cl → H b' = some o' → upd (upd H p (.lst [])) cl o b' = some o' := fun o b' o' n1 n2 e => by rw [upd_ne n2]; exact same_upd hp _ _ e
          refine ite2 (fun e2 => ?_) (fun e2 => ?_)
          · refine ⟨.int z, rfl, .int m, rfl, z, m, rfl, rfl, (by show 0 < m; omega), q _ _ ⟨kd _, r, b, c, k1 _, upd_same, hc.b0, hc.c0, hc.c1, fun x hx => hc.nn x (List.mem_cons_of_mem _ hx)⟩ (Int.emod_nonneg _ (by omega)) (Int.emod_lt_of_pos _ (by omega))⟩
          · refine ⟨.int z, rfl, .ref wl, rfl, wl, _, 1, 1, rfl, rfl, k1 _, rfl, ?_⟩
            refine ⟨⟨fun b' o n1 n2 e => ?_, r, z, c, upd_same, ?_, hz, hc.c0, hc.c1, fun x hx => hc.nn x (List.mem_cons_of_mem _ hx)⟩, some (.int z), none, rfl⟩
            · rw [upd_ne n1]; exact kd _ b' o n1 n2 e
            · rw [upd_ne hwc.symm]; exact upd_same
      · exact ⟨⟨fun _ _ _ _ e => e, cs, b, c, h1, h2, hc⟩, none, none, rfl⟩
    · intro σ H1 hM
      obtain ⟨⟨hD, hW1⟩, y2, y3, rfl⟩ := hM
      obtain ⟨cs, b, c, h1, h2, hc⟩ := hW1
      have q2 : ∀ (o : List V) (b' c' d : Int), o = [.ref cl, .int b', .int c'] → 0 ≤ b' → 0 ≤ c' → c' ≤ 2147483647 → 0 ≤ d → d < m → Q (.int d) (upd H1 wl (.lst o)) := fun o b' c' d eo x1 x2 x3 x4 x5 =>
        q _ _ ⟨fun a o' n1 n2 e => by rw [upd_ne n1]; exact hD a o' n1 n2 e, cs, b', c', by rw [eo]; exact upd_same, by rw [upd_ne hwc.symm]; exact h2, x1, x2, x3, hc.nn⟩ x4 x5
      refine ⟨.ref wl, rfl, wl, _, 1, _, rfl, rfl, .inl (.inl h1), rfl, b, 0, rfl, rfl, _, rfl, ?_⟩
      refine ite2 (fun e => ?_) (fun e => ?_)
      · have hb0 := hc.b0
        refine ⟨.ref wl, rfl, wl, _, 1, _, rfl, rfl, .inl (.inl h1), rfl, .int m, rfl, b, m, rfl, rfl, (by show 0 < m; omega), ?_⟩
        refine ⟨.ref wl, rfl, wl, _, 1, _, rfl, rfl, .inl (.inl h1), rfl, .int m, rfl, b, m, rfl, rfl, ⟨by omega, hlog⟩, .ref wl, rfl, wl, _, 1, 1, rfl, rfl, h1, rfl, ?_⟩
        exact ⟨.int (b % m), rfl, q2 _ (b / m) c _ rfl (Int.ediv_nonneg hb0 (by omega)) hc.c0 hc.c1 (Int.emod_nonneg _ (by omega)) (Int.emod_lt_of_pos _ (by omega))⟩
      · have hc0 := hc.c0
        have hc1 := hc.c1
        refine ⟨.ref wl, rfl, wl, _, 2, _, rfl, rfl, .inl (.inl h1), rfl, c, 48271, rfl, rfl, .inl ⟨by omega, by omega⟩, _, _, rfl, rfl, _, _, rfl, rfl, (by show (0 : Int) < 2147483647; decide), .ref wl, rfl, wl, _, 2, 2, rfl, rfl, h1, rfl, ?_⟩
        have n1 := Int.emod_nonneg (c * 48271 + 12345) (by decide : (2147483647 : Int) ≠ 0)
        have n2 := Int.emod_lt_of_pos (c * 48271 + 12345) (by decide : (0 : Int) < 2147483647)
        generalize ec : (c * 48271 + 12345) % 2147483647 = c' at n1 n2
        have n3 := Int.emod_nonneg (c' ^ (3 : Int).toNat) (by decide : (2147483629 : Int) ≠ 0)
        have n4 := Int.emod_lt_of_pos (c' ^ (3 : Int).toNat) (by decide : (0 : Int) < 2147483629)
        refine ⟨.ref wl, rfl, wl, _, 2, _, rfl, rfl, .inl (.inl upd_same), rfl, c', 3, by rw [← ec], rfl, ⟨by decide, by decide, by omega⟩, _, _, rfl, rfl, (by show (0 : Int) < 2147483629; decide), _, 5, rfl, rfl, ⟨by decide, by decide, by omega⟩, _, _, rfl, rfl, (by show (0 : Int) < 1000000007; decide), _, 7, rfl, rfl, ⟨by decide, by decide⟩, .int m, rfl, _, m, rfl, rfl, (by show 0 < m; omega), ?_⟩
        exact q2 _ b c' _ (by rw [← ec]; rfl) hc.b0 n1 (by omega) (Int.emod_nonneg _ (by omega)) (Int.emod_lt_of_pos _ (by omega))
end
end Rd

set_option Elab.async false
set_option linter.all false
set_option maxRecDepth 100000
set_option maxHeartbeats 4000000
namespace Rd
open PySem PySem.Spec PyProof.Rows L2 Dt
abbrev sHue : Stmt := topS 1
abbrev sIsB : Stmt := topS 2
abbrev sBro : Stmt := topS 3
abbrev sLbr : Stmt := topS 15
abbrev nHue : List Str := ["filling", "places", "place"]
abbrev nIsB : List Str := ["wish", "filling", "places", "rows"]
abbrev nBro : List Str := ["riddle", "filling", "number", "wish"]
abbrev nLbr : List Str := ["riddle", "filling", "found", "k", "places", "rows", "place"]
theorem scHue : FnScope nHue ["filling", "places"] (defScope sHue) := ⟨rfl, rfl, rfl, by decide +kernel, rfl, by decide +kernel, by decide +kernel⟩
theorem scIsB : FnScope nIsB ["wish", "filling"] (defScope sIsB) := ⟨rfl, rfl, rfl, by decide +kernel, rfl, by decide +kernel, by decide +kernel⟩
theorem scBro : FnScope nBro ["riddle", "filling"] (defScope sBro) := ⟨rfl, rfl, rfl, by decide +kernel, rfl, by decide +kernel, by decide +kernel⟩
theorem scLbr : FnScope nLbr ["riddle", "filling"] (defScope sLbr) := ⟨rfl, rfl, rfl, by decide +kernel, rfl, by decide +kernel, by decide +kernel⟩
/-! ### calls of defs, short -/
def Cal (P : Program) (w : World) (K : PySem.W.Frag) (mg : Str → Option Value) (base : Heap) (k : Nat) (x : Str) (ps : List Str) (sp : Sp) : Prop :=
  ∃ (f : Addr) (fd : FuncData), FnOk P w K mg base CX0 k f fd ps sp ∧ mg x = some (.ref f) ∧ PySem.W.keepIn K (.ref f) = true ∧ Binds K fd ps []
theorem pe_cal {X : Cx} {k : Nat} {x : Str} {ps : List Str} {sp : Sp} {p pos : Pos} {e : Expr} {es : List Expr} {t : TA} (C : Cal X.prog X.w X.K X.mg X.base k x ps sp) (hr : Room k X.A) (hg : Gl X x)
    (ha : PA X (e :: es) t) (hdb : (x == ("__debug__" : Str)) = false := by decide) (he : starEach (e :: es) X.env = (false, eval e X.env) :: starEach es X.env := by rfl) (hpl : (backTo pos (starEach es X.env)).any (·.1) = false := by rfl) :
    PE X (.Call (.Name x p) (e :: es) [] pos) (tCall sp [] E0 t) := by
  obtain ⟨f, fd, F, hm, hk, hb⟩ := C
  exact pe_call F hr hg hm hk hb .nil pass0 ha hdb he hpl
/-- a def whose code object is known -/
structure FunC (K : PySem.W.Frag) (x qual : Str) (st : Stmt) (f : Addr) (fd : FuncData) (cdv : Value) : Prop where
  ex : ∃ (oc : Value) (od : Option Addr) (kV doc pm : Value) (an : Option Addr) (ct : Value) (osl : Array (Option Value)),
    fd = PySem.W.fnOf x qual (defArgs st) (defBody st) (defScope st) .none kV doc pm an cdv ct ∧ K.lookup f = some ⟨oc, od, .func fd, osl⟩ ∧ PySem.W.codeIn K cdv qual = true
theorem FunC.ok {P : Program} {w : World} {K : PySem.W.Frag} {mg : Str → Option Value} {base : Heap} {x qual : Str} {st : Stmt} {f : Addr} {fd : FuncData} {cdv : Value} {N ps : List Str} {k : Nat} {sp : Sp} (F : FunC K x qual st f fd cdv) (S : FnScope N ps (defScope st)) (len : ∀ vs H Q E, sp vs H Q E → vs.length = ps.length)
    (body : ∀ (A : Around) (outer : List Env) (s : Shared) (H : Hp) (vs : List V) (Q : VK) (E : XK), Room k (A.deeper (envOfC qual (defScope st) s.heap.objs.size f cdv)) → sp vs H Q E →
      ∃ t, PSs (cxOf CX0 P w K mg base N qual (defScope st) f cdv A outer s H E).nox (defBody st) t ∧ t { nx := fun _ H' => Q .non H', rt := Q } (start N vs) H) : FnOk P w K mg base CX0 (k + 1) f fd ps sp := by
  obtain ⟨oc, od, kV, doc, pm, an, ct, osl, rfl, lk, hcd⟩ := F.ex
  refine fn_of lk hcd S len fun A outer s H vs Q E hr hsp => ?_
  obtain ⟨t, h, q⟩ := body A outer s H vs Q E hr hsp
  exact ⟨t, h.nox, q⟩
theorem units65 {A : Around} {k : Nat} (hr : Room k A) : A.units + 65 < cLine := by have := hr.un; omega
/-- all is kept but the table at P, which is one -/
def Fr1 (P : Addr) (H H' : Hp) : Prop := (∀ b o, b ≠ P → H b = some o → H' b = some o) ∧ GxR.TabG H' P
theorem Fr1.tups {P : Addr} {H H' : Hp} (f : Fr1 P H H') (t : GxR.TabG H P) : Tups H H' := fun b xs e => f.1 b _ (fun z => by
  obtain ⟨ps, hp, _⟩ := t
  rw [z, hp] at e
  cases e) e
theorem Fr1.same {P : Addr} {H H1 H2 : Hp} (f : Fr1 P H H1) (s : Same H1 H2) : Fr1 P H H2 := ⟨fun b o n e => s _ _ (f.1 b o n e), let ⟨ps, h, t⟩ := f.2; ⟨ps, s _ _ h, t⟩⟩
theorem Fr1.trans {P : Addr} {H H1 H2 : Hp} (f : Fr1 P H H1) (s : Fr1 P H1 H2) : Fr1 P H H2 := ⟨fun b o n e => s.1 _ _ n (f.1 b o n e), s.2⟩
theorem Fr1.of {P : Addr} {H H' : Hp} (t : GxR.TabG H P) (s : Same H H') : Fr1 P H H' := ⟨fun b o _ e => s b o e, let ⟨ps, h, t⟩ := t; ⟨ps, s _ _ h, t⟩⟩
theorem Fr1.free {P : Addr} {H H' : Hp} {b : Addr} (t : GxR.TabG H P) (f : Fr1 P H H') (h : H' b = none) : H b = none := by
  cases e : H b with
  | none => rfl
  | some o =>
    by_cases z : b = P
    · obtain ⟨ps, q, _⟩ := f.2
      rw [z, q] at h
      cases h
    · rw [f.1 b o z e] at h
      cases h
def spHues (P : Addr) : Sp := fun vs H Q _ => ∃ (fa pa : Addr) (fs ps : List Int) (many hues : Int), vs = [.ref fa, .ref pa] ∧ H fa = some (.tup (fs.map V.int)) ∧ H pa = some (.tup (ps.map V.int)) ∧ GoodF many hues fs ∧ (∀ p ∈ ps, 0 ≤ p ∧ p < many) ∧ GxR.TabG H P ∧
  ∀ H' t, Fr1 P H H' → H t = none → H' t = some (.tup ((huesA fs ps).map V.int)) → Q (.ref t) H'
def spIsB (P : Addr) : Sp := fun vs H Q _ => ∃ (wa fa : Addr) (fs : List Int) (wd : WD) (many hues : Int), vs = [.ref wa, .ref fa] ∧ IsWish H wa wd ∧ H fa = some (.tup (fs.map V.int)) ∧ GoodF many hues fs ∧ Good many hues wd ∧ many ≤ 6 ∧ hues ≤ 4 ∧ GxR.TabG H P ∧
  ∀ H', Fr1 P H H' → Q (.bl (brk fs wd)) H'
def spBro (P : Addr) : Sp := fun vs H Q _ => ∃ (ri fa : Addr) (fs : List Int) (wds : List WD) (many hues : Int), vs = [.ref ri, .ref fa] ∧ IsRid H ri many hues wds ∧ H fa = some (.tup (fs.map V.int)) ∧ GoodF many hues fs ∧ GoodR many hues wds ∧ GxR.TabG H P ∧
  ∀ H' t, Fr1 P H H' → H t = none → H' t = some (.lst ((broL fs wds wds.length).map V.int)) → Q (.ref t) H'
def spLbr : Sp := fun vs H Q _ => ∃ (ri fa : Addr) (fs : List Int) (wds : List WD) (many hues : Int), vs = [.ref ri, .ref fa] ∧ IsRid H ri many hues wds ∧ H fa = some (.tup (fs.map V.int)) ∧ GoodF many hues fs ∧ GoodR many hues wds ∧
  ∀ H' t, Same H H' → H t = none → H' t = some (.lst ((broL fs wds wds.length).map V.int)) → Q (.ref t) H'
section
variable {P : Program} {w : World} {K : PySem.W.Frag} {mg : Str → Option Value} {base : Heap}
theorem ok_hues {f c Pt : Addr} {fd : FuncData} {k : Nat} (F : FunC K "hues_at" "hues_at" sHue f fd (.ref c)) (TB : GxR.TabB base mg c Pt) (mt : mg "tuple" = none) : FnOk P w K mg base CX0 (k + 1) f fd ["filling", "places"] (spHues Pt) := by
  refine F.ok scHue (fun vs H Q E h => ?_) (fun A outer s H vs Q E hr h => ?_)
  · obtain ⟨fa, pa, fs, ps, many, hues, rfl, _⟩ := h
    rfl
  · obtain ⟨fa, pa, fs, ps, many, hues, rfl, hf, hp, gf, hpl, hT, q⟩ := h
    refine ⟨_, pss_one (ps_ret (Gv.pe_tupG (x := "place") hr (by rfl) mt TB rfl ⟨rfl, rfl, by decide +kernel, rfl, rfl, fun y hy e => ?_⟩ (pv 1) (fun _ => rfl))), ?_⟩
    · match y, hy, e with
      | _, .head _, e => exact nomatch e
      | _, .tail _ (.head _), e => exact nomatch e
      | _, .tail _ (.tail _ (.head _)), _ => exact ⟨_, rfl⟩
    refine ⟨.ref pa, rfl, pa, ps.map V.int, (huesA fs ps).map V.int, rfl, .inr (.inl (.inl hp)), by simp [huesA], fun pins => Gv.elt_item (j := 0) rfl rfl rfl rfl rfl rfl rfl (.inl (.inl hf)) hT fun i x0 hx => ?_, hT, fun H2 hb p np => ?_⟩
    · rw [List.getElem?_map] at hx
      cases e : ps[i]? with
      | none => rw [e] at hx; cases hx
      | some n =>
        rw [e] at hx
        cases hx
        have hn := hpl n (List.mem_of_getElem? e)
        refine ⟨n, .int (atF fs n), rfl, atI_fs gf hn.1 hn.2, ?_⟩
        rw [List.getElem?_map, huesA, List.getElem?_map, e]
        rfl
    · have fr : Fr1 Pt H H2 := ⟨fun b o n e => by rw [hb.2 b n]; exact e, hb.1⟩
      exact q _ p (fr.same (same_upd np)) (fr.free hT np) upd_same
theorem ok_isB {f Pt : Addr} {fd : FuncData} {k : Nat} (F : Fun K "is_broken" "is_broken" sIsB f fd) (C : Cal P w K mg base 1 "hues_at" ["filling", "places"] (spHues Pt)) : FnOk P w K mg base CX0 (k + 2) f fd ["wish", "filling"] (spIsB Pt) := by
  refine F.ok scIsB (fun vs H Q E h => ?_) (fun cdv A outer s H vs Q E hr h => ?_)
  · obtain ⟨wa, fa, fs, wd, many, hues, rfl, _⟩ := h
    rfl
  · obtain ⟨wa, fa, fs, wd, many, hues, rfl, hw, hf, gf, gw, hm, hh, hT, q⟩ := h
    refine ⟨_, (pss_cons (ps_asg (pv 0) (pg_tup rfl (pgs_cons (pg_name (i := 2) scIsB.nd rfl (Or.inl rfl)) (pgs_cons (pg_name (i := 3) scIsB.nd rfl (Or.inl rfl)) pgs_nil))))
      (pss_one (ps_ret (pe_cmpR (Dt.op_inT (units65 hr)) (pe_cal C (hr.mono (by omega)) (by rfl) (pa_cons (pv 1) (pa_cons (pv 2) pa_nil))) (pv 3) (by rfl))))), ?_⟩
    obtain ⟨pa, ra, rs, h1, h2, h3, h4⟩ := id hw
    refine ⟨.ref wa, rfl, wa, _, rfl, .inl (.inl h1), rfl, .ref pa, [.ref ra], rfl, .ref ra, [], rfl, rfl, ?_⟩
    refine ⟨.ref fa, rfl, .ref pa, rfl, fa, pa, fs, wd.1, many, hues, rfl, hf, h2, gf, gw.pl, hT, fun H' t fr nt ht => ?_⟩
    have tp := fr.tups hT
    refine ⟨.ref ra, rfl, rowD (huesA fs wd.1), wd.2.map rowD, .tup (.inl (.inl ht)) (dpInts _), .tup (.inl (.inl (tp _ _ h3))) (dpRows (pairedMap (fun _ _ e => tp _ _ e) h4)), ?_, ?_, ?_⟩
    · refine (fine_row (fun z hz => ?_) ?_).shaped (by decide)
      · obtain ⟨p, hp, rfl⟩ := List.mem_map.mp hz
        have hpp := gw.pl p hp
        have e := List.mem_of_getElem? (at_some gf hpp.1 hpp.2)
        have := gf.hue _ e
        omega
      · have := gw.three
        simp [huesA]
        omega
    · refine (Fine.tuple (fineAll_map wd.2 (n := 2) (w := 64) fun r hr => fine_row (fun z hz => ?_) ?_)).shaped (by decide)
      · have := (gw.row r hr).2 z hz
        omega
      · have := (gw.row r hr).1
        have := gw.three
        omega
    · rw [anyRows]
      exact q H' fr
theorem ok_bro {f Pt : Addr} {fd : FuncData} {k : Nat} (F : Fun K "broken" "broken" sBro f fd) (me : mg "enumerate" = none) (C : Cal P w K mg base 2 "is_broken" ["wish", "filling"] (spIsB Pt)) : FnOk P w K mg base CX0 (k + 3) f fd ["riddle", "filling"] (spBro Pt) := by
  refine F.ok scBro (fun vs H Q E h => ?_) (fun cdv A outer s H vs Q E hr h => ?_)
  · obtain ⟨ri, fa, fs, wds, many, hues, rfl, _⟩ := h
    rfl
  · obtain ⟨ri, fa, fs, wds, many, hues, rfl, hrd, hf, gf, gr, hT, q⟩ := h
    refine ⟨_, (pss_one (ps_ret (pe_lc (own := [("number", 2), ("wish", 3)]) (g := gTup K 2 (gCons (gName 2) (gCons (gName 3) gNil))) rfl scBro.nd  (Et.pi_enumT (by rfl) me (pa_cons (pe_ix ix_tup (pv 0) pe_int (fun _ _ => rfl)) pa_nil)) (blkOk_by (own := [("number", 2), ("wish", 3)]) (N := nBro) (sc := defScope sBro) (by decide +kernel))
      (fun _ _ _ _ _ => (pg_tup rfl (pgs_cons (pg_name (i := 2) scBro.nd rfl (Or.inl rfl)) (pgs_cons (pg_name (i := 3) scBro.nd rfl (Or.inl rfl)) pgs_nil)))) (fun _ _ _ _ _ => pts_one (pt_val (pe_cal C (hr.mono (by omega)) (by rfl) (pa_cons (pv 3) (pa_cons (pv 1) pa_nil))))) (fun _ _ _ _ _ => (pv 2))))), ?_⟩
    obtain ⟨wt, was, h1, h2, h3⟩ := id hrd
    have hl : was.length = wds.length := pairedLen h3
    refine ⟨.ref ri, rfl, ri, _, 2, _, rfl, rfl, .inl (.inl h1), rfl, wt, was.map V.ref, rfl, .inl (.inl h2), fun D nD => ?_⟩
    refine Et.lc_enumT (K := K) (a := wt) (xs := was.map V.ref) (fun i H3 => Fr1 Pt H H3 ∧ H3 D = some (.lst ((broL fs wds i).map V.int))) ⟨Fr1.of hT (same_upd nD), upd_same⟩ (fun i H3 _ p => .inl (.inl (p.1.tups hT _ _ h2))) (fun i x H3 T hx p nT => ?_) (fun H3 p => ?_)
    · obtain ⟨fr, hD⟩ := p
      rw [List.getElem?_map] at hx
      cases ew : was[i]? with
      | none => rw [ew] at hx; cases hx
      | some wa =>
        rw [ew] at hx
        cases hx
        obtain ⟨wd, hwd, isw⟩ := pairedGetL h3 ew
        have gw := gr.each wd (List.mem_of_getElem? hwd)
        have hi : i < was.length := (List.getElem?_eq_some_iff.mp ew).1
        have nDP : D ≠ Pt := fun z => by
          obtain ⟨ps, e, _⟩ := fr.2
          rw [← z, hD] at e
          cases e
        have sT := same_upd (o := .tup [.int (i : Nat), .ref wa]) nT
        have fr2 : Fr1 Pt H (upd H3 T (.tup [.int (i : Nat), .ref wa])) := fr.same sT
        refine ⟨T, [.int i, .ref wa], rfl, .inl (.inl upd_same), rfl, .int i, [.ref wa], rfl, .ref wa, [], rfl, rfl, rfl, ?_⟩
        refine ⟨.ref wa, rfl, .ref fa, rfl, wa, fa, fs, wd, many, hues, rfl, isw.mono (fr2.tups hT), fr2.tups hT _ _ hf, gf, gw, gr.m6, gr.h4, fr2.2, fun H4 fr3 => ⟨_, rfl, ?_⟩⟩
        have fr4 := fr2.trans fr3
        have hD4 : H4 D = some (.lst ((broL fs wds i).map V.int)) := fr3.1 D _ nDP (sT _ _ hD)
        have eb := brkAt_of (fs := fs) hwd
        refine ite2 (fun e => ?_) (fun e => ?_)
        · refine ⟨.int i, rfl, _, hD4, ?_, ⟨fun b o n eb2 => ?_, ?_⟩, ?_⟩
          · rw [List.length_map]
            have := broL_len fs wds i
            have := gr.eight
            exact small1000 (by omega)
          · rw [upd_ne (ne_of_none eb2 nD)]
            exact fr4.1 b o n eb2
          · obtain ⟨ps, e1, e2⟩ := fr4.2
            exact ⟨ps, by rw [upd_ne (Ne.symm nDP)]; exact e1, e2⟩
          · rw [upd_same, broL_yes (eb.trans e), List.map_append]
            rfl
        · refine ⟨fr4, ?_⟩
          rw [broL_no (eb.trans (by simpa using e))]
          exact hD4
    · obtain ⟨fr, hD⟩ := p
      rw [List.length_map, hl] at hD
      exact q H3 D fr nD hD
theorem ok_lbr {f : Addr} {fd : FuncData} {k : Nat} (F : Fun K "_law_broken" "_law_broken" sLbr f fd) (me : mg "enumerate" = none) (mt : mg "tuple" = none) : FnOk P w K mg base CX0 (k + 1) f fd ["riddle", "filling"] spLbr := by
  refine F.ok scLbr (fun vs H Q E h => ?_) (fun cdv A outer s H vs Q E hr h => ?_)
  · obtain ⟨ri, fa, fs, wds, many, hues, rfl, _⟩ := h
    rfl
  · obtain ⟨ri, fa, fs, wds, many, hues, rfl, hrd, hf, gf, gr, q⟩ := h
    refine ⟨_, (pss_cons (ps_set (i := 2) scLbr.nd rfl (Or.inl rfl) (pe_lst pa_nil))
      (pss_cons (ps_for PassesOwn.never rfl (Et.pi_enumT (by rfl) me (pa_cons (pe_ix ix_tup (pv 0) pe_int (fun _ _ => rfl)) pa_nil)) (pg_tup rfl (pgs_cons (pg_name (i := 3) scLbr.nd rfl (Or.inl rfl)) (pgs_cons (pg_tup rfl (pgs_cons (pg_name (i := 4) scLbr.nd rfl (Or.inl rfl)) (pgs_cons (pg_name (i := 5) scLbr.nd rfl (Or.inl rfl)) pgs_nil))) pgs_nil)))
      (pss_one (ps_if (pt_cmpR (Dt.op_inT (units65 hr)) (pe_callTy call_tuple_of (by rfl) mt (by decide +kernel) (pa_cons (pe_lc (own := [("place", 6)]) (te := tOp (rIxT K) (tVar 1) (tVar 6)) rfl scLbr.nd  (pi_tup (pv 4)) (blkOk_by (own := [("place", 6)]) (N := nLbr) (sc := defScope sLbr) (by decide +kernel))
        (fun _ _ _ _ _ => (pg_name (i := 6) scLbr.nd rfl (Or.inl rfl))) (fun _ _ _ _ _ => pts_nil) (fun _ _ _ _ _ => (pe_ix ix_tup (pv 1) (pv 6) (fun _ _ => rfl)))) pa_nil)) (pv 5) (by rfl))
      (pss_one (ps_expr (pe_bm PySem.F.plainAttrs_list PySem.F.slot_list_append PySem.F.type_list_append mt_append (pv 2) (pa_cons (pv 3) pa_nil)))) pss_nil)))
      (pss_one (ps_ret (pv 2))))), ?_⟩
    obtain ⟨wt, was, h1, h2, h3⟩ := id hrd
    have hl : was.length = wds.length := pairedLen h3
    refine ⟨(by show 0 ≤ sizeLine; decide), fun l nl => ?_⟩
    have sl := same_upd (o := .lst []) nl
    refine ⟨.ref ri, rfl, ri, _, 2, _, rfl, rfl, .inl (.inl (sl _ _ h1)), rfl, wt, was.map V.ref, rfl, .inl (.inl (sl _ _ h2)), ?_⟩
    refine Et.for_enumT (K := K) (a := wt) (xs := was.map V.ref) (fun i σ H3 => Same H H3 ∧ H3 l = some (.lst ((broL fs wds i).map V.int)) ∧ ∃ y3 y4 y5 y6, σ = [some (.ref ri), some (.ref fa), some (.ref l), y3, y4, y5, y6]) ⟨sl, upd_same, none, none, none, none, rfl⟩ (fun i σ H3 _ p => .inl (.inl (p.1 _ _ h2))) (fun i x σ H3 T hx p nT => ?_) (fun σ H3 p => ?_)
    · obtain ⟨sm, hL, y3, y4, y5, y6, rfl⟩ := p
      rw [List.getElem?_map] at hx
      cases ew : was[i]? with
      | none => rw [ew] at hx; cases hx
      | some wa =>
        rw [ew] at hx
        cases hx
        obtain ⟨wd, hwd, isw⟩ := pairedGetL h3 ew
        have gw := gr.each wd (List.mem_of_getElem? hwd)
        have sT := same_upd (o := .tup [.int (i : Nat), .ref wa]) nT
        have s2 := sm.trans sT
        obtain ⟨pa, ra, rs, w1, w2, w3, w4⟩ := isw.mono (tups_same s2)
        refine ⟨T, [.int i, .ref wa], rfl, .inl (.inl upd_same), rfl, .int i, [.ref wa], rfl, .ref wa, [], rfl, ⟨wa, _, rfl, .inl (.inl w1), rfl, .ref pa, [.ref ra], rfl, .ref ra, [], rfl, rfl, rfl, ?_⟩⟩
        refine ⟨.ref pa, rfl, pa, rfl, ⟨_, .inl (.inl w2)⟩, fun D nD => lc_tup (K := K) (a := pa) (xs := wd.1.map V.int) (fun j H5 => Same (upd H3 T (.tup [.int (i : Nat), .ref wa])) H5 ∧ H5 D = some (.lst ((huesA fs (wd.1.take j)).map V.int))) ⟨same_upd nD, upd_same⟩ (fun j H5 _ pp => .inl (.inl (pp.1 _ _ w2))) (fun j x H5 hx pp => ?_) (fun H5 pp => ?_)⟩
        · rw [List.getElem?_map] at hx
          cases ep : wd.1[j]? with
          | none => rw [ep] at hx; cases hx
          | some p =>
            rw [ep] at hx
            cases hx
            have hp := gw.pl p (List.mem_of_getElem? ep)
            refine ⟨rfl, ?_⟩
            dsimp only [tYes]
            rw [if_pos rfl]
            refine ⟨.ref fa, rfl, .int p, rfl, fa, _, p, _, rfl, rfl, .inl (.inl (pp.1 _ _ (s2 _ _ hf))), atI_fs gf hp.1 hp.2, _, pp.2, ?_, ?_, ?_⟩
            · have := gw.three
              simp [huesA]
              exact small1000 (by omega)
            · intro b o e
              rw [upd_ne (ne_of_none e nD)]
              exact pp.1 b o e
            · rw [upd_same, List.take_add_one, ep]
              simp [huesA]
        · have hD := pp.2
          rw [List.length_map, List.take_length] at hD
          refine ⟨D, _, rfl, .inl ⟨.inl (.inl hD), fun t nt => ?_⟩⟩
          have s3 := pp.1.trans (same_upd (o := .tup ((huesA fs wd.1).map V.int)) nt)
          refine ⟨.ref ra, rfl, rowD (huesA fs wd.1), wd.2.map rowD, .tup (.inl (.inl upd_same)) (dpInts _), .tup (.inl (.inl (s3 _ _ w3))) (dpRows (pairedMap (fun _ _ e => s3 _ _ e) w4)), ?_, ?_, ?_⟩
          · refine (fine_row (fun z hz => ?_) ?_).shaped (by decide)
            · obtain ⟨p, hp, rfl⟩ := List.mem_map.mp hz
              have hpp := gw.pl p hp
              have e := List.mem_of_getElem? (at_some gf hpp.1 hpp.2)
              have := gf.hue _ e
              have := gr.h4
              omega
            · have := gw.three
              simp [huesA]
              omega
          · refine (Fine.tuple (fineAll_map wd.2 (n := 2) (w := 64) fun r hr => fine_row (fun z hz => ?_) ?_)).shaped (by decide)
            · have := (gw.row r hr).2 z hz
              have := gr.h4
              omega
            · have := (gw.row r hr).1
              have := gw.three
              omega
          · rw [anyRows]
            have eb := brkAt_of (fs := fs) hwd
            have hLT := s3 _ _ (sT _ _ hL)
            have s4 := s2.trans s3
            refine ⟨_, rfl, ite2 (fun e => ?_) (fun e => ?_)⟩
            · refine ⟨.ref l, rfl, .inl ⟨rfl, _, .inl (.inl hLT)⟩, .int i, rfl, l, _, _, rfl, rfl, hLT, ?_, ?_, ?_, ?_⟩
              · rw [List.length_map]
                have := broL_len fs wds i
                have := gr.eight
                have := (List.getElem?_eq_some_iff.mp ew).1
                exact small1000 (by omega)
              · intro b o e2
                rw [upd_ne (ne_of_none e2 nl)]
                exact s4 b o e2
              · rw [upd_same, broL_yes (eb.trans e), List.map_append]
                rfl
              · exact ⟨_, _, _, _, rfl⟩
            · refine ⟨s4, ?_, _, _, _, _, rfl⟩
              rw [broL_no (eb.trans (by simpa [brk] using e))]
              exact hLT
    · obtain ⟨sm, hL, y3, y4, y5, y6, rfl⟩ := p
      rw [List.length_map, hl] at hL
      exact ⟨.ref l, rfl, q H3 l sm nl hL⟩
end
end Rd

set_option Elab.async false
set_option linter.all false
set_option maxRecDepth 100000
set_option maxHeartbeats 4000000
namespace Rd
open PySem PySem.Spec PyProof.Rows L2 Dt
abbrev sPow : Stmt := topS 11
abbrev sWis : Stmt := topS 12
abbrev nPow : List Str := ["number", "many", "found", "turn"]
abbrev nWis : List Str := ["well", "many", "hues", "full", "alone_rows", "left", "size", "places", "every", "count", "step", "rows", "at", "k", "row", "number", "place", "found"]
theorem scPow : FnScope nPow ["number", "many"] (defScope sPow) := ⟨rfl, rfl, rfl, by decide +kernel, rfl, by decide +kernel, by decide +kernel⟩
theorem scWis : FnScope nWis ["well", "many", "hues"] (defScope sWis) := ⟨rfl, rfl, rfl, by decide +kernel, rfl, by decide +kernel, by decide +kernel⟩
theorem Well.same {H H' : Hp} {wl cl : Addr} (h : Well H wl cl) (s : Same H H') : Well H' wl cl := by
  obtain ⟨cs, b, c, h1, h2, hc⟩ := h
  exact ⟨cs, b, c, s _ _ h1, s _ _ h2, hc⟩
theorem Well.new {H : Hp} {wl cl b : Addr} (h : Well H wl cl) (n : H b = none) : b ≠ wl ∧ b ≠ cl := by
  obtain ⟨cs, x, c, h1, h2, hc⟩ := h
  exact ⟨(ne_of_none h1 n).symm, (ne_of_none h2 n).symm⟩
theorem Well.put {H : Hp} {wl cl b : Addr} {o : HO} (h : Well H wl cl) (n : b ≠ wl ∧ b ≠ cl) : Well (upd H b o) wl cl := by
  obtain ⟨cs, x, c, h1, h2, hc⟩ := h
  exact ⟨cs, x, c, by rw [upd_ne n.1.symm]; exact h1, by rw [upd_ne n.2.symm]; exact h2, hc⟩
theorem Drawn.refl {H : Hp} {wl cl : Addr} (h : Well H wl cl) : Drawn wl cl H H := ⟨fun _ _ _ _ e => e, h⟩
theorem Drawn.trans {H H1 H2 : Hp} {wl cl : Addr} (a : Drawn wl cl H H1) (b : Drawn wl cl H1 H2) : Drawn wl cl H H2 := ⟨fun x o n1 n2 e => b.1 x o n1 n2 (a.1 x o n1 n2 e), b.2⟩
theorem Drawn.same {H H1 H2 : Hp} {wl cl : Addr} (a : Drawn wl cl H H1) (s : Same H1 H2) : Drawn wl cl H H2 := ⟨fun x o n1 n2 e => s _ _ (a.1 x o n1 n2 e), a.2.same s⟩
/-- a store at a place that wasn't there at first -/
theorem Drawn.put {H H1 : Hp} {wl cl b : Addr} {o : HO} (a : Drawn wl cl H H1) (n : H b = none) (nb : b ≠ wl ∧ b ≠ cl) : Drawn wl cl H (upd H1 b o) :=
  ⟨fun x u n1 n2 e => by rw [upd_ne (ne_of_none e n)]; exact a.1 x u n1 n2 e, a.2.put nb⟩
theorem Drawn.tups {H H' : Hp} {wl cl : Addr} (w : Well H wl cl) (a : Drawn wl cl H H') : Tups H H' := fun b xs e => by
  obtain ⟨cs, x, c, h1, h2, hc⟩ := w
  exact a.1 b _ (fun z => by rw [z, h1] at e; cases e) (fun z => by rw [z, h2] at e; cases e) e
theorem Drawn.free {H H' : Hp} {wl cl b : Addr} (w : Well H wl cl) (a : Drawn wl cl H H') (n : H' b = none) : H b = none := by
  cases e : H b with
  | none => rfl
  | some o =>
    obtain ⟨m1, m2⟩ := a.2.new n
    rw [a.1 b o m1 m2 e] at n
    cases n
theorem log_small {m : Int} (h0 : 0 ≤ m) (h : m < 4294967296) : m.natAbs.log2 < 9000 := by
  have e : m.natAbs < 2 ^ 32 := by omega
  by_cases z : m.natAbs = 0
  · rw [z]; decide
  · have := (Nat.log2_lt z).mpr e
    omega
theorem pow_small : ∀ n : Fin 5, ∀ i : Fin 7, ((n : Nat) : Int) ^ (i : Nat) ≤ 4096 ∧ 0 ≤ ((n : Nat) : Int) ^ (i : Nat) := by decide
theorem pow_bd {n : Int} {i : Nat} (h0 : 0 ≤ n) (h4 : n ≤ 4) (hi : i ≤ 6) : n ^ i ≤ 4096 ∧ 0 ≤ n ^ i := by
  obtain ⟨m, rfl⟩ : ∃ m : Nat, n = m := ⟨n.toNat, by omega⟩
  exact pow_small ⟨m, by omega⟩ ⟨i, by omega⟩
def spPow : Sp := fun vs H Q _ => ∃ n m : Int, vs = [.int n, .int m] ∧ 0 ≤ n ∧ n ≤ 4 ∧ 0 ≤ m ∧ m ≤ 6 ∧ Q (.int (n ^ m.toNat)) H
def spWis : Sp := fun vs H Q _ => ∃ (wl cl : Addr) (many hues : Int), vs = [.ref wl, .int many, .int hues] ∧ Well H wl cl ∧ 1 ≤ many ∧ many ≤ 6 ∧ 2 ≤ hues ∧ hues ≤ 4 ∧
  ∀ H' wa wd, Drawn wl cl H H' → IsWish H' wa wd → Good many hues wd → Q (.ref wa) H'
/-- the ints of a tuple -/
def toI : V → Int
  | .int i => i
  | _ => 0
def rowAt (H : Hp) (t : Addr) : List Int := match H t with
  | some (.tup xs) => xs.map toI
  | _ => []
theorem rowAt_of {H : Hp} {t : Addr} {row : Dt.Row} (h : IsRow H t row) : rowAt H t = row := by
  unfold rowAt
  rw [show H t = some (.tup (row.map V.int)) from h]
  show (row.map V.int).map toI = row
  rw [List.map_map]
  have e : (toI ∘ V.int) = id := by funext z; rfl
  rw [e, List.map_id]
def rngI (m : Int) : List Int := (List.range m.toNat).map fun (i : Nat) => (i : Int)
theorem rngI_len (m : Int) : (rngI m).length = m.toNat := by
  unfold rngI
  rw [List.length_map, List.length_range]
theorem rngI_mem {m z : Int} (h : z ∈ rngI m) : 0 ≤ z ∧ z < m := by
  obtain ⟨i, hi, rfl⟩ := List.mem_map.mp h
  have := List.mem_range.mp hi
  omega
theorem rgV_eq (m : Int) : rgV 0 m = (rngI m).map V.int := by
  unfold rgV rngI
  rw [List.map_map]
  have e : (m - 0).toNat = m.toNat := by rw [Int.sub_zero]
  rw [e]
  refine List.map_congr_left fun i _ => ?_
  show V.int (0 + (i : Int)) = V.int (i : Int)
  rw [Int.zero_add]
theorem map_erase (ls : List Int) (k : Nat) : (ls.map V.int).eraseIdx k = (ls.eraseIdx k).map V.int := by
  induction ls generalizing k with
  | nil => rfl
  | cons a r ih => cases k with
    | zero => rfl
    | succ k => simp [ih]
theorem erase_perm : ∀ (l : List Int) (k : Nat) (h : k < l.length), (l[k] :: l.eraseIdx k).Perm l
  | [], k, h => absurd h (Nat.not_lt_zero _)
  | a :: r, 0, _ => List.Perm.refl _
  | a :: r, k + 1, h => by
    have ih := erase_perm r k (Nat.lt_of_succ_lt_succ h)
    show ((r[k]'(Nat.lt_of_succ_lt_succ h)) :: a :: r.eraseIdx k).Perm (a :: r)
    exact (List.Perm.swap a _ _).trans (List.Perm.cons a ih)
theorem pow_wishF : ∀ n : Fin 3, ∀ m : Fin 3, 2 ≤ (((n : Nat) : Int) + 2) ^ ((m : Nat) + 1) ∧ (((n : Nat) : Int) + 2) ^ ((m : Nat) + 1) ≤ 64 := by decide
theorem pow_wish {h s : Int} (h2 : 2 ≤ h) (h4 : h ≤ 4) (s1 : 1 ≤ s) (s3 : s ≤ 3) : 2 ≤ h ^ s.toNat ∧ h ^ s.toNat ≤ 64 := by
  obtain ⟨n, rfl⟩ : ∃ n : Nat, h = (n : Int) + 2 := ⟨(h - 2).toNat, by omega⟩
  obtain ⟨m, rfl⟩ : ∃ m : Nat, s = (m : Int) + 1 := ⟨(s - 1).toNat, by omega⟩
  have e : ((m : Int) + 1).toNat = m + 1 := by omega
  rw [e]
  exact pow_wishF ⟨n, by omega⟩ ⟨m, by omega⟩
structure TxtW (P : Program) (w : World) (K : PySem.W.Frag) (mg : Str → Option Value) (base : Heap) : Prop where
  m_range : mg "range" = none
  m_list : mg "list" = none
  m_min : mg "min" = none
  m_max : mg "max" = none
  m_len : mg "len" = none
  m_sorted : mg "sorted" = none
  m_tuple : mg "tuple" = none
  c__law_draw : Cal P w K mg base 1 "_law_draw" ["well", "many"] spDraw
  c__law_power : Cal P w K mg base 1 "_law_power" ["number", "many"] spPow
section
variable {P : Program} {w : World} {K : PySem.W.Frag} {mg : Str → Option Value} {base : Heap}
/-- len of a list or a tuple -/
def rLen (K : PySem.W.Frag) : List V → Hp → VK → Prop := fun xs H Q => ∃ p ys, xs = [.ref p] ∧ (SqL K H p ys ∨ SqT K H p ys) ∧ Q (.int (ys.length : Nat)) H
theorem ok_pow {f : Addr} {fd : FuncData} {k : Nat} (F : Fun K "_law_power" "_law_power" sPow f fd) (mr : mg "range" = none) : FnOk P w K mg base CX0 (k + 1) f fd ["number", "many"] spPow := by
  refine F.ok scPow (fun vs H Q E h => ?_) (fun cdv A outer s H vs Q E hr h => ?_)
  · obtain ⟨n, m, rfl, _⟩ := h
    rfl
  · obtain ⟨n, m, rfl, h0, h4, m0, m6, q⟩ := h
    refine ⟨_, (pss_cons (ps_set (i := 2) scPow.nd rfl (Or.inl rfl) pe_int)
      (pss_cons (ps_for PassesOwn.never rfl (pi_range1 (by rfl) mr (pa_cons (pv 1) pa_nil)) (pg_name (i := 3) scPow.nd rfl (Or.inl rfl))
      (pss_one (ps_set (i := 2) scPow.nd rfl (Or.inl rfl) (pe_op op_mul (pv 2) (pv 0)))))
      (pss_one (ps_ret (pv 2))))), ?_⟩
    refine ⟨.int m, rfl, m, rfl, by omega, by omega, for_range (lo := 0) (n := m.toNat) (fun i σ H3 => H3 = H ∧ ∃ y3, σ = [some (.int n), some (.int m), some (.int (n ^ i)), y3]) ⟨rfl, none, by rw [Int.pow_zero]; rfl⟩ (fun i σ H3 hi p => ?_) (fun σ H3 p => ?_)⟩
    · obtain ⟨rfl, y3, rfl⟩ := p
      have b := pow_bd h0 h4 (i := i) (by omega)
      exact ⟨_, rfl, _, rfl, n ^ i, n, rfl, rfl, .inl ⟨by omega, by omega⟩, rfl, _, by rw [Int.pow_succ]; rfl⟩
    · obtain ⟨rfl, y3, rfl⟩ := p
      exact ⟨_, rfl, q⟩
set_option maxHeartbeats 16000000 in
theorem ok_wis {f : Addr} {fd : FuncData} {k : Nat} (F : Fun K "_law_wish" "_law_wish" sWis f fd) (T : TxtW P w K mg base) : FnOk P w K mg base CX0 (k + 2) f fd ["well", "many", "hues"] spWis := by
  refine F.ok scWis (fun vs H Q E h => ?_) (fun cdv A outer s H vs Q E hr h => ?_)
  · obtain ⟨wl, cl, many, hues, rfl, _⟩ := h
    rfl
  · obtain ⟨wl, cl, many, hues, rfl, hW, m1, m6, h2, h4, q⟩ := h
    have hr1 : Room 1 (A.deeper (envOfC (Str.ofString "_law_wish") (defScope sWis) s.heap.objs.size f cdv)) := hr.mono (by omega)
    have hu := units65 hr
    refine ⟨_, (pss_cons (ps_set (i := 3) scWis.nd rfl (Or.inl rfl) (pe_cal T.c__law_draw hr1 (by rfl) (pa_cons (pv 0) (pa_cons pe_int pa_nil))))
  (pss_cons (ps_set (i := 4) scWis.nd rfl (Or.inl rfl) (pe_cmpR op_eq (pe_cal T.c__law_draw hr1 (by rfl) (pa_cons (pv 0) (pa_cons pe_int pa_nil))) pe_int (nomark _)))
  (pss_cons (ps_set (i := 5) scWis.nd rfl (Or.inr rfl) (pe_listRg rfl (by rfl) T.m_list (prg_1 (by rfl) T.m_range (pv 1))))
  (pss_cons (ps_set (i := 6) scWis.nd rfl (Or.inl rfl) (pe_op op_add pe_int (pe_cal T.c__law_draw hr1 (by rfl) (pa_cons (pv 0) (pa_cons (pe_callB (call_min2 rfl) (by rfl) T.m_min (by decide +kernel) (pa_cons pe_int (pa_cons (pv 1) pa_nil))) pa_nil)))))
  (pss_cons (ps_set (i := 7) scWis.nd rfl (Or.inl rfl) (pe_callB cr_sorted (by rfl) T.m_sorted (by decide +kernel) (pa_cons (pe_lc (own := [("k", 13)]) (te := tBM K "list" rPopAt (tVar 5) (tCons (tCall spDraw [] E0 (tCons (tVar 0) (tCons (tCB (rLen K) (tCons (tVar 5) tNil)) tNil))) tNil)) rfl scWis.nd  (pi_range1 (by rfl) T.m_range (pa_cons (pv 6) pa_nil)) (blkOk_by (own := [("k", 13)]) (N := nWis) (sc := defScope sWis) (by decide +kernel))
   (fun _ _ _ _ _ => (pg_name (i := 13) scWis.nd rfl (Or.inl rfl))) (fun _ _ _ _ _ => pts_nil) (fun _ _ _ _ _ => (pe_bm PySem.F.plainAttrs_list PySem.F.slot_list_pop PySem.F.type_list_pop mt_popAt (pv 5) (pa_cons (pe_cal T.c__law_draw hr1 (by rfl) (pa_cons (pv 0) (pa_cons (pe_callB call_len_seq (by rfl) T.m_len (by decide +kernel) (pa_cons (pv 5) pa_nil)) pa_nil))) pa_nil)))) pa_nil)))
  (pss_cons (ps_set (i := 8) scWis.nd rfl (Or.inl rfl) (pe_cal T.c__law_power hr1 (by rfl) (pa_cons (pv 2) (pa_cons (pv 6) pa_nil))))
  (pss_cons (ps_set (i := 9) scWis.nd rfl (Or.inl rfl) (pe_op op_add pe_int (pe_cal T.c__law_draw hr1 (by rfl) (pa_cons (pv 0) (pa_cons (pe_ix ix_list (pe_lst (pa_cons (pe_callB (call_max2 rfl) (by rfl) T.m_max (by decide +kernel) (pa_cons pe_int (pa_cons (pe_op op_fdiv (pv 8) pe_int) pa_nil))) (pa_cons (pv 8) (pa_cons pe_int (pa_cons (pe_callB (call_min2 rfl) (by rfl) T.m_min (by decide +kernel) (pa_cons pe_int (pa_cons (pv 8) pa_nil))) pa_nil))))) (pe_callB (call_min2 rfl) (by rfl) T.m_min (by decide +kernel) (pa_cons (pv 3) (pa_cons pe_int pa_nil))) (fun _ _ => rfl)) pa_nil)))))
  (pss_cons (ps_set (i := 10) scWis.nd rfl (Or.inl rfl) (pe_op op_add pe_int (pe_cal T.c__law_draw hr1 (by rfl) (pa_cons (pv 0) (pa_cons (pv 8) pa_nil)))))
  (pss_cons (ps_set (i := 11) scWis.nd rfl (Or.inl rfl) (pe_lst pa_nil))
  (pss_cons (ps_set (i := 12) scWis.nd rfl (Or.inl rfl) (pe_cal T.c__law_draw hr1 (by rfl) (pa_cons (pv 0) (pa_cons (pv 8) pa_nil))))
  (pss_cons (ps_for PassesOwn.never rfl (pi_range1 (by rfl) T.m_range (pa_cons (pe_callB (call_min2 rfl) (by rfl) T.m_min (by decide +kernel) (pa_cons (pv 9) (pa_cons (pv 8) pa_nil))) pa_nil)) (pg_name (i := 13) scWis.nd rfl (Or.inl rfl))
  (pss_cons (ps_set (i := 14) scWis.nd rfl (Or.inl rfl) (pe_lst pa_nil))
  (pss_cons (ps_set (i := 15) scWis.nd rfl (Or.inl rfl) (pv 12))
  (pss_cons (ps_for PassesOwn.never rfl (pi_list (pv 7)) (pg_name (i := 16) scWis.nd rfl (Or.inl rfl))
  (pss_cons (ps_expr (pe_bm PySem.F.plainAttrs_list PySem.F.slot_list_append PySem.F.type_list_append mt_append (pv 14) (pa_cons (pe_op op_mod (pv 15) (pv 2)) pa_nil)))
  (pss_one (ps_set (i := 15) scWis.nd rfl (Or.inl rfl) (pe_op op_fdiv (pv 15) (pv 2))))))
  (pss_cons (ps_expr (pe_bm PySem.F.plainAttrs_list PySem.F.slot_list_append PySem.F.type_list_append mt_append (pv 11) (pa_cons (pe_callTy call_tuple_of (by rfl) T.m_tuple (by decide +kernel) (pa_cons (pv 14) pa_nil)) pa_nil)))
  (pss_cons (ps_set (i := 12) scWis.nd rfl (Or.inl rfl) (pe_op op_mod (pe_op op_add (pv 12) (pv 10)) (pv 8)))
  (pss_one (ps_if (pt_val (pv 4))
  (pss_one (ps_set (i := 12) scWis.nd rfl (Or.inl rfl) (pe_cal T.c__law_draw hr1 (by rfl) (pa_cons (pv 0) (pa_cons (pv 8) pa_nil))))) pss_nil))))))))
  (pss_cons (ps_set (i := 17) scWis.nd rfl (Or.inl rfl) (pe_lst pa_nil))
  (pss_cons (ps_for PassesOwn.never rfl (pi_list (pe_callB Tt.cr_sortedT (by rfl) T.m_sorted (by decide +kernel) (pa_cons (pv 11) pa_nil))) (pg_name (i := 14) scWis.nd rfl (Or.inl rfl))
  (pss_one (ps_if (pt_cmpR (op_notInD hu) (pv 14) (pv 17) (by rfl))
  (pss_one (ps_expr (pe_bm PySem.F.plainAttrs_list PySem.F.slot_list_append PySem.F.type_list_append mt_append (pv 17) (pa_cons (pv 14) pa_nil)))) pss_nil)))
  (pss_one (ps_ret (pe_tup (pa_cons (pe_callTy call_tuple_of (by rfl) T.m_tuple (by decide +kernel) (pa_cons (pv 7) pa_nil)) (pa_cons (pe_callTy call_tuple_of (by rfl) T.m_tuple (by decide +kernel) (pa_cons (pv 17) pa_nil)) pa_nil)))))))))))))))))), ?_⟩
    -- full, alone_rows
    refine ⟨.ref wl, rfl, wl, cl, 8, rfl, hW, by decide, by decide, fun H1 full D1 f0 f1 => ?_⟩
    refine ⟨.ref wl, rfl, wl, cl, 3, rfl, D1.2, by decide, by decide, fun H2 al D2 _ _ => ⟨rfl, ?_⟩⟩
    generalize decide (V.int al = V.int 0) = alone
    have E2 := D1.trans D2
    -- left
    refine ⟨.int many, rfl, many, rfl, ⟨by omega, by omega, by omega, by omega, by omega⟩, fun l nl => ?_⟩
    have nlw := D2.2.new nl
    have nl0 : H l = none := E2.free hW nl
    have E3 := E2.put (o := .lst (rgV 0 many)) nl0 nlw
    have hl3 : upd H2 l (.lst (rgV 0 many)) l = some (.lst (rgV 0 many)) := upd_same
    generalize upd H2 l (.lst (rgV 0 many)) = H3 at E3 hl3
    -- size
    refine ⟨.ref wl, rfl, .int many, rfl, 3, many, rfl, wl, cl, _, rfl, E3.2, by split <;> omega, log_small (by split <;> omega) (by split <;> omega), fun H4 sz D4 s0 s1 => ⟨1, sz, rfl, rfl, ?_⟩⟩
    have E4 := E3.trans D4
    have hl4 := D4.1 l _ nlw.1 nlw.2 hl3
    obtain ⟨z3, zm⟩ : 1 + sz ≤ 3 ∧ 1 + sz ≤ many := by
      constructor <;> (split at s1 <;> omega)
    have z1 : 1 ≤ 1 + sz := by omega
    dsimp only
    generalize 1 + sz = size at z3 zm z1
    clear s0 s1
    -- places
    refine ⟨.int size, rfl, size, rfl, by omega, by omega, fun D nD => ?_⟩
    have nDw := E4.2.new nD
    have nD0 : H D = none := E4.free hW nD
    have nlD : l ≠ D := ne_of_none hl4 nD
    refine lc_range (lo := 0) (n := size.toNat) (fun i H5 => Drawn wl cl H H5 ∧ ∃ acc ls : List Int, H5 l = some (.lst (ls.map V.int)) ∧ H5 D = some (.lst (acc.map V.int)) ∧ acc.length = i ∧ ls.length + i = many.toNat ∧ (acc ++ ls).Perm (rngI many)) ⟨E4.put nD0 nDw, [], rngI many, ?_, upd_same, rfl, ?_, List.Perm.refl _⟩ (fun i H5 hi p => ?_) (fun H5 p => ?_)
    · rw [upd_ne nlD, hl4, rgV_eq]
    · rw [rngI_len]; rfl
    · obtain ⟨dr, acc, ls, hL, hD, la, ll, pm⟩ := p
      refine ⟨rfl, ?_⟩
      dsimp only [tYes]
      rw [if_pos rfl]
      have lpos : 1 ≤ ls.length := by omega
      refine ⟨.ref l, rfl, .inl ⟨rfl, _, .inl (.inl hL)⟩, .ref wl, rfl, .ref l, rfl, l, _, rfl, .inl (.inl (.inl hL)), wl, cl, _, rfl, dr.2, by rw [List.length_map]; omega, by rw [List.length_map]; exact log_small (by omega) (by omega), fun H6 d D6 d0 d1 => ?_⟩
      rw [List.length_map] at d1
      have hd : d.toNat < ls.length := by omega
      have hL6 := D6.1 l _ nlw.1 nlw.2 hL
      have hD6 := D6.1 D _ nDw.1 nDw.2 hD
      refine ⟨l, ls.map V.int, d, d.toNat, .int (ls[d.toNat]), rfl, rfl, hL6, by omega, by omega, seqIndex_of d0 (by rw [List.length_map]; exact d1), ?_, acc.map V.int, ?_, ?_, ?_, acc ++ [ls[d.toNat]], ls.eraseIdx d.toNat, ?_, ?_, ?_, ?_, ?_⟩
      · rw [List.getElem?_map, List.getElem?_eq_getElem hd]
        rfl
      · rw [upd_ne (Ne.symm nlD)]
        exact hD6
      · rw [List.length_map]
        exact small1000 (by omega)
      · exact ((dr.trans D6).put nl0 nlw).put nD0 nDw
      · rw [upd_ne nlD, upd_same, map_erase]
      · rw [upd_same, List.map_append]
        rfl
      · rw [List.length_append, la]
        rfl
      · rw [List.length_eraseIdx_of_lt hd]
        omega
      · refine List.Perm.trans ?_ pm
        rw [List.append_assoc]
        exact List.Perm.append_left acc (erase_perm ls _ hd)
    · obtain ⟨E5, acc, ls, hL, hD, la, ll, pm⟩ := p
      refine ⟨D, acc, rfl, .inl (.inl hD), by omega, fun ps lp perm rising nlp => ?_⟩
      have accb : ∀ z ∈ acc, 0 ≤ z ∧ z < many := fun z hz => rngI_mem (pm.mem_iff.mp (List.mem_append_left _ hz))
      have psb : ∀ z ∈ ps, 0 ≤ z ∧ z < many := fun z hz => accb z (perm.mem_iff.mp hz)
      have psl : ps.length = size.toNat := by rw [perm.length_eq, la]
      have nlpw := E5.2.new nlp
      have nlp0 : H lp = none := E5.free hW nlp
      have E6 := E5.put (o := .lst (ps.map V.int)) nlp0 nlpw
      have hp6 : upd H5 lp (.lst (ps.map V.int)) lp = some (.lst (ps.map V.int)) := upd_same
      generalize upd H5 lp (.lst (ps.map V.int)) = H6 at E6 hp6
      clear hL hD la ll pm accb perm nD nDw nD0 nlD hl4
      -- every
      refine ⟨.int hues, rfl, .int size, rfl, hues, size, rfl, by omega, h4, by omega, by omega, ?_⟩
      obtain ⟨e2, e64⟩ := pow_wish h2 h4 z1 z3
      generalize hues ^ size.toNat = every at e2 e64
      -- count
      refine ⟨.ref wl, rfl, .int every, rfl, every, 2, rfl, rfl, ⟨by decide, by decide⟩, 1, every / 2, rfl, .int every, rfl, .int every, rfl, 2, every, rfl, (by show 4 ≤ sizeLine; decide), fun lt nlt => ?_⟩
      obtain ⟨c, hc, c1, c64⟩ : ∃ c, atI [V.int (if every / 2 > 1 then every / 2 else 1), V.int every, V.int 2, V.int (if every < 2 then every else 2)] (if 3 < full then 3 else full) = some (.int c) ∧ 1 ≤ c ∧ c ≤ 64 := by
        have : (if 3 < full then 3 else full) = 0 ∨ (if 3 < full then 3 else full) = 1 ∨ (if 3 < full then 3 else full) = 2 ∨ (if 3 < full then 3 else full) = 3 := by split <;> omega
        rcases this with e | e | e | e <;> rw [e]
        · exact ⟨_, atI_nat (j := 0) rfl, by split <;> omega, by split <;> omega⟩
        · exact ⟨_, atI_nat (j := 1) rfl, by omega, by omega⟩
        · exact ⟨_, atI_nat (j := 2) rfl, by omega, by omega⟩
        · exact ⟨_, atI_nat (j := 3) rfl, by split <;> omega, by split <;> omega⟩
      have slt := same_upd (o := .lst [V.int (if every / 2 > 1 then every / 2 else 1), V.int every, V.int 2, V.int (if every < 2 then every else 2)]) nlt
      have E7 := E6.same slt
      refine ⟨.int full, rfl, full, 3, rfl, lt, _, _, _, rfl, rfl, .inl (.inl upd_same), hc, wl, cl, c, rfl, E7.2, c1, log_small (by omega) (by omega), fun H8 ct D8 c0 c2 => ⟨1, ct, rfl, rfl, ?_⟩⟩
      have E8 := E7.trans D8
      have hp8 := D8.1 lp _ nlpw.1 nlpw.2 (slt _ _ hp6)
      have ct1 : 1 ≤ 1 + ct := by omega
      dsimp only
      generalize 1 + ct = count at ct1
      clear hc c1 c64 c0 c2 E7 slt nlt
      -- step, rows, at
      refine ⟨.ref wl, rfl, .int every, rfl, wl, cl, every, rfl, E8.2, by omega, log_small (by omega) (by omega), fun H9 st D9 st0 _ => ⟨1, st, rfl, rfl, ?_⟩⟩
      have E9 := E8.trans D9
      have hp9 := D9.1 lp _ nlpw.1 nlpw.2 hp8
      have st1 : 0 ≤ 1 + st := by omega
      dsimp only
      generalize 1 + st = step at st1
      refine ⟨(by show 0 ≤ sizeLine; decide), fun lr nlr => ?_⟩
      have nlrw := E9.2.new nlr
      have nlr0 : H lr = none := E9.free hW nlr
      have nrp : lr ≠ lp := (ne_of_none hp9 nlr).symm
      have E10 := E9.put (o := .lst []) nlr0 nlrw
      have hp10 : upd H9 lr (.lst []) lp = some (.lst (ps.map V.int)) := by rw [upd_ne (Ne.symm nrp)]; exact hp9
      have hr10 : upd H9 lr (.lst []) lr = some (.lst []) := upd_same
      generalize upd H9 lr (.lst []) = H10 at E10 hp10 hr10
      refine ⟨.ref wl, rfl, .int every, rfl, wl, cl, every, rfl, E10.2, by omega, log_small (by omega) (by omega), fun H11 at0 D11 a0 a1 => ?_⟩
      have E11 := E10.trans D11
      have hp11 := D11.1 lp _ nlpw.1 nlpw.2 hp10
      have hr11 := D11.1 lr _ nlrw.1 nlrw.2 hr10
      -- the rows
      refine ⟨.int count, rfl, .int every, rfl, count, every, rfl, _, rfl, by split <;> omega, by split <;> omega, ?_⟩
      obtain ⟨n1, n64⟩ : 1 ≤ (if every < count then every else count).toNat ∧ (if every < count then every else count).toNat ≤ 64 := by split <;> omega
      generalize (if every < count then every else count).toNat = turns at n1 n64
      refine for_range (lo := 0) (n := turns) (fun i σ H12 => Drawn wl cl H H12 ∧ H12 lp = some (.lst (ps.map V.int)) ∧ (∃ (ts : List Addr) (rws : List (List Int)), H12 lr = some (.lst (ts.map V.ref)) ∧ ts.length = i ∧ Paired (IsRow H12) ts rws ∧ ∀ r ∈ rws, r.length = ps.length ∧ ∀ h ∈ r, 0 ≤ h ∧ h < hues) ∧
        ∃ at' y13 y14 y15 y16, 0 ≤ at' ∧ at' < every ∧ σ = [some (.ref wl), some (.int many), some (.int hues), some (.int full), some (.bl alone), some (.ref l), some (.int size), some (.ref lp), some (.int every), some (.int count), some (.int step), some (.ref lr), some (.int at'), y13, y14, y15, y16, none])
        ⟨E11, hp11, ⟨[], [], hr11, rfl, .nil, fun _ h => nomatch h⟩, at0, none, none, none, none, a0, a1, rfl⟩ (fun i σ H12 hi p => ?_) (fun σ H12 p => ?_)
      · obtain ⟨E12, hp12, ⟨ts, rws, hr12, tl, pr, gd⟩, at', y13, y14, y15, y16, b0, b1, rfl⟩ := p
        refine ⟨(by show 0 ≤ sizeLine; decide), fun lw nlw2 => ?_⟩
        have nw := E12.2.new nlw2
        have nw0 : H lw = none := E12.free hW nlw2
        have nwp : lw ≠ lp := (ne_of_none hp12 nlw2).symm
        have nwr : lw ≠ lr := (ne_of_none hr12 nlw2).symm
        have sw := same_upd (o := .lst []) nlw2
        have E13 := E12.same sw
        refine ⟨.int at', rfl, .ref lp, rfl, lp, rfl, ⟨_, .inl (.inl (sw _ _ hp12))⟩, ?_⟩
        refine for_list (K := K) (a := lp) (xs := ps.map V.int) (fun j σ H14 => (∀ b o, b ≠ lw → upd H12 lw (.lst []) b = some o → H14 b = some o) ∧ Well H14 wl cl ∧ (∃ row : List Int, H14 lw = some (.lst (row.map V.int)) ∧ row.length = j ∧ ∀ h ∈ row, 0 ≤ h ∧ h < hues) ∧
          ∃ num y16, 0 ≤ num ∧ σ = [some (.ref wl), some (.int many), some (.int hues), some (.int full), some (.bl alone), some (.ref l), some (.int size), some (.ref lp), some (.int every), some (.int count), some (.int step), some (.ref lr), some (.int at'), some (.int (0 + (i : Int))), some (.ref lw), some (.int num), y16, none])
          ⟨fun _ _ _ e => e, E13.2, ⟨[], upd_same, rfl, fun _ h => nomatch h⟩, at', y16, b0, rfl⟩ (fun j σ H14 _ p => .inl (.inl (p.1 lp _ (Ne.symm nwp) (sw _ _ hp12)))) (fun j x σ H14 hx p => ?_) (fun σ H14 p => ?_)
        · obtain ⟨kp, we, ⟨row, hrow, rl, rb⟩, num, z16, nn, rfl⟩ := p
          have hj : j < ps.length := by
            have := (List.getElem?_eq_some_iff.mp hx).1
            rw [List.length_map] at this
            exact this
          refine ⟨.ref lw, rfl, .inl ⟨rfl, _, .inl (.inl hrow)⟩, .int num, rfl, .int hues, rfl, num, hues, rfl, rfl, (by show 0 < hues; omega), lw, _, _, rfl, rfl, hrow, ?_, ?_⟩
          · rw [List.length_map]
            exact small1000 (by omega)
          · refine ⟨.int num, rfl, .int hues, rfl, num, hues, rfl, rfl, ⟨by omega, by omega⟩, ?_, we.put nw, ⟨row ++ [num % hues], ?_, ?_, ?_⟩, num / hues, _, Int.ediv_nonneg nn (by omega), rfl⟩
            · intro b o n e
              rw [upd_ne n]
              exact kp b o n e
            · rw [upd_same, List.map_append]
              rfl
            · rw [List.length_append, rl]
              rfl
            · intro h hh
              rcases List.mem_append.mp hh with hh | hh
              · exact rb h hh
              · rw [List.mem_singleton.mp hh]
                exact ⟨Int.emod_nonneg _ (by omega), Int.emod_lt_of_pos _ (by omega)⟩
        · obtain ⟨kp, we, ⟨row, hrow, rl, rb⟩, num, z16, nn, rfl⟩ := p
          rw [List.length_map] at rl
          have hr14 : H14 lr = some (.lst (ts.map V.ref)) := kp lr _ (Ne.symm nwr) (sw _ _ hr12)
          have hp14 : H14 lp = some (.lst (ps.map V.int)) := kp lp _ (Ne.symm nwp) (sw _ _ hp12)
          have E14 : Drawn wl cl H H14 := ⟨fun b o n1' n2' e => kp b o (ne_of_none e nw0) (sw _ _ (E12.1 b o n1' n2' e)), we⟩
          refine ⟨.ref lr, rfl, .inl ⟨rfl, _, .inl (.inl hr14)⟩, .ref lw, rfl, lw, _, rfl, .inl ⟨.inl (.inl hrow), fun t nt => ?_⟩⟩
          have st := same_upd (o := .tup (row.map V.int)) nt
          have ntr : t ≠ lr := (ne_of_none hr14 nt).symm
          refine ⟨lr, ts.map V.ref, .ref t, rfl, rfl, st _ _ hr14, ?_, ?_⟩
          · rw [List.length_map, tl]
            exact small1000 (by omega)
          have E15 : Drawn wl cl H (upd (upd H14 t (.tup (row.map V.int))) lr (.lst (ts.map V.ref ++ [.ref t]))) := (E14.same st).put nlr0 nlrw
          have tups15 : Tups H12 (upd (upd H14 t (.tup (row.map V.int))) lr (.lst (ts.map V.ref ++ [.ref t]))) := fun b xs e => by
            have nb : b ≠ lr := fun z => by rw [z, hr12] at e; cases e
            have nb2 : b ≠ lw := fun z => by rw [z, nlw2] at e; cases e
            rw [upd_ne nb]
            exact st _ _ (kp b _ nb2 (sw _ _ e))
          have isr : IsRow (upd (upd H14 t (.tup (row.map V.int))) lr (.lst (ts.map V.ref ++ [.ref t]))) t row := by
            show upd _ lr _ t = _
            rw [upd_ne ntr]
            exact upd_same
          have pr15 := (pairedMap (fun _ _ e => tups15 _ _ e) pr).snoc isr
          have hp15 : upd (upd H14 t (.tup (row.map V.int))) lr (.lst (ts.map V.ref ++ [.ref t])) lp = some (.lst (ps.map V.int)) := by
            rw [upd_ne (Ne.symm nrp)]
            exact st _ _ hp14
          have hr15 : upd (upd H14 t (.tup (row.map V.int))) lr (.lst (ts.map V.ref ++ [.ref t])) lr = some (.lst ((ts ++ [t]).map V.ref)) := by
            rw [upd_same, List.map_append]
            rfl
          generalize upd (upd H14 t (.tup (row.map V.int))) lr (.lst (ts.map V.ref ++ [.ref t])) = H15 at E15 pr15 hp15 hr15
          have gd15 : ∀ r ∈ rws ++ [row], r.length = ps.length ∧ ∀ h ∈ r, 0 ≤ h ∧ h < hues := fun r hr => by
            rcases List.mem_append.mp hr with hr | hr
            · exact gd r hr
            · rw [List.mem_singleton.mp hr]
              exact ⟨rl, rb⟩
          refine ⟨.int at', rfl, .int step, rfl, at', step, rfl, rfl, .int every, rfl, at' + step, every, rfl, rfl, (by show 0 < every; omega), .bl alone, rfl, alone, rfl, ?_⟩
          have m0 := Int.emod_nonneg (at' + step) (show every ≠ 0 by omega)
          have m1' := Int.emod_lt_of_pos (at' + step) (show 0 < every by omega)
          refine ite2 (fun _ => ?_) (fun _ => ?_)
          · refine ⟨.ref wl, rfl, .int every, rfl, wl, cl, every, rfl, E15.2, by omega, log_small (by omega) (by omega), fun H16 an D16 an0 an1 => ?_⟩
            exact ⟨E15.trans D16, D16.1 lp _ nlpw.1 nlpw.2 hp15, ⟨ts ++ [t], rws ++ [row], D16.1 lr _ nlrw.1 nlrw.2 hr15, by rw [List.length_append, tl]; rfl, pairedMap (fun _ _ e => D16.tups E15.2 _ _ e) pr15, gd15⟩, an, _, _, _, _, an0, an1, rfl⟩
          · exact ⟨E15, hp15, ⟨ts ++ [t], rws ++ [row], hr15, by rw [List.length_append, tl]; rfl, pr15, gd15⟩, _, _, _, _, _, m0, m1', rfl⟩
      · obtain ⟨E12, hp12, ⟨ts, rws, hr12, tl, pr, gd⟩, at', y13, y14, y15, y16, b0, b1, rfl⟩ := p
        -- found
        refine ⟨(by show 0 ≤ sizeLine; decide), fun lf nlf => ?_⟩
        have nf := E12.2.new nlf
        have nf0 : H lf = none := E12.free hW nlf
        have nfp : lf ≠ lp := (ne_of_none hp12 nlf).symm
        have sf := same_upd (o := .lst []) nlf
        have E13 := E12.same sf
        have pr13 := pairedMap (fun _ _ e => sf _ _ e) pr
        generalize hH13 : upd H12 lf (.lst []) = H13 at sf E13 pr13
        have hf13 : H13 lf = some (.lst []) := by rw [← hH13]; exact upd_same
        have rows_at : ∀ t ∈ ts, ∃ r ∈ rws, IsRow H13 t r := fun t ht => by
          obtain ⟨i, hi, e⟩ := List.getElem_of_mem ht
          obtain ⟨r, hr, is⟩ := pairedGetL pr13 (List.getElem?_eq_getElem hi)
          exact ⟨r, List.mem_of_getElem? hr, e ▸ is⟩
        refine ⟨.ref lr, rfl, lr, ts, rowAt H13, ps.length, hues, rfl, .inl (.inl (sf _ _ hr12)), by omega, fun t ht => ?_, fun ts' so pm pw nso => ?_⟩
        · obtain ⟨r, hr, is⟩ := rows_at t ht
          rw [rowAt_of is]
          exact ⟨is, (gd r hr).1, (gd r hr).2⟩
        have ssv := same_upd (o := .lst (ts'.map V.ref)) nso
        have nfs : lf ≠ so := ne_of_none hf13 nso
        have E14 := E13.same ssv
        refine ⟨so, rfl, ⟨_, .inl (.inl upd_same)⟩, ?_⟩
        refine for_list (K := K) (a := so) (xs := ts'.map V.ref) (fun i σ H15 => (∀ b o, b ≠ lf → upd H13 so (.lst (ts'.map V.ref)) b = some o → H15 b = some o) ∧ Well H15 wl cl ∧ (∃ (fs : List Addr) (frs : List (List Int)), H15 lf = some (.lst (fs.map V.ref)) ∧ fs.length ≤ i ∧ (1 ≤ i → 1 ≤ fs.length) ∧ Paired (IsRow H15) fs frs ∧ ∀ r ∈ frs, r.length = ps.length ∧ ∀ h ∈ r, 0 ≤ h ∧ h < hues) ∧
          ∃ z13 z14 z15 z16, σ = [some (.ref wl), some (.int many), some (.int hues), some (.int full), some (.bl alone), some (.ref l), some (.int size), some (.ref lp), some (.int every), some (.int count), some (.int step), some (.ref lr), some (.int at'), z13, z14, z15, z16, some (.ref lf)])
          ⟨fun _ _ _ e => e, E14.2, ⟨[], [], ssv _ _ hf13, Nat.le_refl _, fun h => absurd h (by decide), .nil, fun _ h => nomatch h⟩, _, _, _, _, rfl⟩ (fun i σ H15 _ p => .inl (.inl (p.1 so _ (Ne.symm nfs) upd_same))) (fun i x σ H15 hx p => ?_) (fun σ H15 p => ?_)
        · obtain ⟨kp, we, ⟨fs, frs, hf15, fl, fp, pf, gf⟩, z13, z14, z15, z16, rfl⟩ := p
          rw [List.getElem?_map] at hx
          cases et : ts'[i]? with
          | none => rw [et] at hx; cases hx
          | some t =>
            rw [et] at hx
            cases hx
            have tm : t ∈ ts := pm.mem_iff.mp (List.mem_of_getElem? et)
            obtain ⟨r, hr, is⟩ := rows_at t tm
            have it : i < ts'.length := (List.getElem?_eq_some_iff.mp et).1
            have tl' : ts'.length = turns := by rw [pm.length_eq, tl]
            have is15 : IsRow H15 t r := kp t _ (fun z => by rw [z] at is; exact absurd (is.symm.trans hf13) (fun z => by cases z)) (ssv _ _ is)
            have fineR : ∀ r', (r'.length = ps.length ∧ ∀ h ∈ r', 0 ≤ h ∧ h < hues) → Fine (rowD r') 2 64 := fun r' g => fine_row (fun z hz => ⟨(g.2 z hz).1, by have := (g.2 z hz).2; omega⟩) (by have := g.1; omega)
            refine ⟨.ref t, rfl, .ref lf, rfl, rowD r, frs.map rowD, dpRow is15, .lst (.inl (.inl hf15)) (dpRows pf), (fineR r (gd r hr)).shaped (by decide), (Fine.list (fineAll_map frs fun r' hr' => fineR r' (gf r' hr'))).shaped (by decide), _, rfl, ?_⟩
            rw [anyRows]
            refine ite2 (fun _ => ?_) (fun e => ?_)
            · refine ⟨.ref lf, rfl, .inl ⟨rfl, _, .inl (.inl hf15)⟩, .ref t, rfl, lf, _, _, rfl, rfl, hf15, ?_, ?_, we.put nf, ⟨fs ++ [t], frs ++ [r], ?_, ?_, fun _ => ?_, ?_, ?_⟩, _, _, _, _, rfl⟩
              · rw [List.length_map]
                exact small1000 (by omega)
              · intro b o n e
                rw [upd_ne n]
                exact kp b o n e
              · rw [upd_same, List.map_append]
                rfl
              · rw [List.length_append]
                exact Nat.succ_le_succ fl
              · rw [List.length_append]
                exact Nat.le_add_left _ _
              · have tu : Tups H15 (upd H15 lf (.lst (fs.map V.ref ++ [.ref t]))) := tups_upd fun xs z => by rw [hf15] at z; cases z
                exact (pairedMap (fun _ _ e => tu _ _ e) pf).snoc (tu _ _ is15)
              · intro r' hr'
                rcases List.mem_append.mp hr' with h | h
                · exact gf r' h
                · rw [List.mem_singleton.mp h]
                  exact gd r hr
            · refine ⟨kp, we, ⟨fs, frs, hf15, by omega, fun _ => ?_, pf, gf⟩, _, _, _, _, rfl⟩
              have e2 : r ∈ frs := by
                by_cases z : r ∈ frs
                · exact z
                · exact absurd (by simp [z]) e
              have := List.length_pos_of_mem e2
              rw [pairedLen pf]
              exact this
        · obtain ⟨kp, we, ⟨fs, frs, hf15, fl, fp, pf, gf⟩, z13, z14, z15, z16, rfl⟩ := p
          rw [List.length_map, pm.length_eq, tl] at fl fp
          have hp15 : H15 lp = some (.lst (ps.map V.int)) := kp lp _ (Ne.symm nfp) (ssv _ _ (sf _ _ hp12))
          have E15 : Drawn wl cl H H15 := ⟨fun b o n1' n2' e => kp b o (ne_of_none e nf0) (ssv _ _ (E13.1 b o n1' n2' e)), we⟩
          refine ⟨.ref lp, rfl, lp, _, rfl, .inl ⟨.inl (.inl hp15), fun t1 nt1 => ?_⟩⟩
          have q1 := same_upd (o := .tup (ps.map V.int)) nt1
          refine ⟨.ref lf, rfl, lf, _, rfl, .inl ⟨.inl (.inl (q1 _ _ hf15)), fun t2 nt2 => ?_⟩⟩
          have q2 := q1.trans (same_upd (o := .tup (fs.map V.ref)) nt2)
          refine ⟨(by show 2 ≤ sizeLine; decide), fun wa nwa => ?_⟩
          have q3 := same_upd (o := .tup [.ref t1, .ref t2]) nwa
          have q4 := q2.trans q3
          refine q _ wa (ps, frs) (E15.same q4) ⟨t1, t2, fs, upd_same, q3 _ _ (same_upd nt2 _ _ upd_same), q3 _ _ upd_same, pairedMap (fun _ _ e => q4 _ _ e) pf⟩ ⟨?_, ?_, psb, ?_, ?_, gf⟩
          · show 1 ≤ ps.length
            omega
          · show ps.length ≤ 3
            omega
          · show 1 ≤ frs.length
            rw [← pairedLen pf]
            exact fp n1
          · show frs.length ≤ 64
            rw [← pairedLen pf]
            omega
end
end Rd

set_option Elab.async false
set_option linter.all false
set_option maxRecDepth 100000
set_option maxHeartbeats 4000000
namespace Rd
open PySem PySem.Spec PyProof.Rows L2 Dt
abbrev sRid : Stmt := topS 13
abbrev nRid : List Str := ["well", "most_places", "most_wishes", "hues", "most", "many", "same", "wishes", "k", "wish"]
theorem scRid : FnScope nRid ["well", "most_places", "most_wishes"] (defScope sRid) := ⟨rfl, rfl, rfl, by decide +kernel, rfl, by decide +kernel, by decide +kernel⟩
def spRid : Sp := fun vs H Q _ => ∃ (wl cl : Addr) (mw : Int), vs = [.ref wl, .int 6, .int mw] ∧ Well H wl cl ∧ 0 ≤ mw ∧ mw ≤ 8 ∧
  ∀ H' ri many hues wds, Drawn wl cl H H' → IsRid H' ri many hues wds → GoodR many hues wds → Q (.ref ri) H'
--
theorem eqv_list_nil (d : PyData) (ds : List PyData) : PyData.eqv (.list (d :: ds)) (.list []) = false := by simp [PyData.eqv, PyData.eqvAll]
theorem eqv_list_nn : PyData.eqv (.list []) (.list []) = true := by simp [PyData.eqv, PyData.eqvAll]
theorem eqv_tup_nil (d : PyData) (ds : List PyData) : PyData.eqv (.tuple (d :: ds)) (.tuple []) = false := by simp [PyData.eqv, PyData.eqvAll]
theorem eqv_tup_nn : PyData.eqv (.tuple []) (.tuple []) = true := by simp [PyData.eqv, PyData.eqvAll]
theorem dict_hues {h : Int} (h0 : 0 ≤ h) (h2 : h ≤ 2) : ∃ m, valV (mergeK [] [((Sum.inl 2 : Key), V.int 6), (Sum.inl 3, .int 5), (Sum.inl 4, .int 4)]) (Sum.inl (2 + h)) = some (.int m) ∧ 1 ≤ m ∧ m ≤ 6 := by
  have : h = 0 ∨ h = 1 ∨ h = 2 := by omega
  rcases this with rfl | rfl | rfl
  · exact ⟨6, by decide, by decide, by decide⟩
  · exact ⟨5, by decide, by decide, by decide⟩
  · exact ⟨4, by decide, by decide, by decide⟩
structure TxtR (P : Program) (w : World) (K : PySem.W.Frag) (mg : Str → Option Value) (base : Heap) : Prop extends TxtW P w K mg base where
  m_zip : mg "zip" = none
  c__law_wish : Cal P w K mg base 2 "_law_wish" ["well", "many", "hues"] spWis
section
variable {P : Program} {w : World} {K : PySem.W.Frag} {mg : Str → Option Value} {base : Heap}
set_option maxHeartbeats 16000000 in
theorem ok_rid {f : Addr} {fd : FuncData} {k : Nat} (F : Fun K "_law_riddle" "_law_riddle" sRid f fd) (T : TxtR P w K mg base) : FnOk P w K mg base CX0 (k + 3) f fd ["well", "most_places", "most_wishes"] spRid := by
  refine F.ok scRid (fun vs H Q E h => ?_) (fun cdv A outer s H vs Q E hr h => ?_)
  · obtain ⟨wl, cl, mw, rfl, _⟩ := h
    rfl
  · obtain ⟨wl, cl, mw, rfl, hW, w0, w8, q⟩ := h
    have hr1 : Room 1 (A.deeper (envOfC (Str.ofString "_law_riddle") (defScope sRid) s.heap.objs.size f cdv)) := hr.mono (by omega)
    have hr2 : Room 2 (A.deeper (envOfC (Str.ofString "_law_riddle") (defScope sRid) s.heap.objs.size f cdv)) := hr.mono (by omega)
    have hu1 := hu_of hr
    refine ⟨_, (pss_cons (ps_set (i := 3) scRid.nd rfl (Or.inl rfl) (pe_op op_add pe_int (pe_ix ix_list (pe_lst (pa_cons pe_int (pa_cons pe_int (pa_cons pe_int (pa_cons pe_int pa_nil))))) (pe_cal T.c__law_draw hr1 (by rfl) (pa_cons (pv 0) (pa_cons pe_int pa_nil))) (fun _ _ => rfl))))
  (pss_cons (ps_set (i := 4) scRid.nd rfl (Or.inl rfl) (pe_callB (call_min2 rfl) (by rfl) T.m_min (by decide +kernel) (pa_cons (pv 1) (pa_cons (pe_dget hu1 (pe_disp (pps_cons pe_int pe_int (pps_cons pe_int pe_int (pps_cons pe_int pe_int pps_nil))) (by rfl) (by rfl) (fun z => by cases z) (by decide)) (pv 3) (fun _ _ => rfl)) pa_nil))))
  (pss_cons (ps_set (i := 5) scRid.nd rfl (Or.inl rfl) (pe_op op_add pe_int (pe_cal T.c__law_draw hr1 (by rfl) (pa_cons (pv 0) (pa_cons (pv 4) pa_nil)))))
  (pss_cons (ps_set (i := 6) scRid.nd rfl (Or.inl rfl) (pe_cal T.c__law_draw hr1 (by rfl) (pa_cons (pv 0) (pa_cons pe_int pa_nil))))
  (pss_cons (ps_set (i := 7) scRid.nd rfl (Or.inl rfl) (pe_lst pa_nil))
  (pss_cons (ps_for PassesOwn.never rfl (pi_range1 (by rfl) T.m_range (pa_cons (pe_cal T.c__law_draw hr1 (by rfl) (pa_cons (pv 0) (pa_cons (pe_op op_add (pv 2) pe_int) pa_nil))) pa_nil)) (pg_name (i := 8) scRid.nd rfl (Or.inl rfl))
  (pss_cons (ps_set (i := 9) scRid.nd rfl (Or.inl rfl) (pe_cal T.c__law_wish hr2 (by rfl) (pa_cons (pv 0) (pa_cons (pv 5) (pa_cons (pv 3) pa_nil)))))
  (C8.pss_cut (ps_if (PW.pt (pw_and (pt_cmpR op_eq (pv 6) (pv 8) (nomark _)) (pw_and1 (pt_cmpR (op_neD hr.units) (pv 7) (pe_lst pa_nil) (nomark _)))))
  (pss_one (ps_set (i := 9) scRid.nd rfl (Or.inl rfl) (pe_ix ix_list (pv 7) pe_int (fun _ _ => rfl)))) pss_nil)
  (pss_one (ps_expr (pe_bm PySem.F.plainAttrs_list PySem.F.slot_list_append PySem.F.type_list_append mt_append (pv 7) (pa_cons (pv 9) pa_nil)))))))
  (pss_one (ps_ret (pe_tup (pa_cons (pv 5) (pa_cons (pv 3) (pa_cons (pe_callTy call_tuple_of (by rfl) T.m_tuple (by decide +kernel) (pa_cons (pv 7) pa_nil)) pa_nil)))))))))))), ?_⟩
    -- hues
    refine ⟨(by show 4 ≤ sizeLine; decide), fun l4 nl4 => ?_⟩
    have s4 := same_upd (o := .lst [V.int 0, .int 0, .int 1, .int 2]) nl4
    refine ⟨.ref wl, rfl, wl, cl, 4, rfl, hW.same s4, by decide, by decide, fun H1 d D1 d0 d1 => ?_⟩
    have E1 : Drawn wl cl H H1 := (Drawn.refl hW |>.same s4).trans D1
    have n4 := (hW.new nl4)
    obtain ⟨hx, hat, hx0, hx2⟩ : ∃ hx, atI [V.int 0, .int 0, .int 1, .int 2] d = some (.int hx) ∧ 0 ≤ hx ∧ hx ≤ 2 := by
      have : d = 0 ∨ d = 1 ∨ d = 2 ∨ d = 3 := by omega
      rcases this with rfl | rfl | rfl | rfl
      · exact ⟨0, atI_nat (j := 0) rfl, by decide, by decide⟩
      · exact ⟨0, atI_nat (j := 1) rfl, by decide, by decide⟩
      · exact ⟨1, atI_nat (j := 2) rfl, by decide, by decide⟩
      · exact ⟨2, atI_nat (j := 3) rfl, by decide, by decide⟩
    refine ⟨l4, _, d, .int hx, rfl, rfl, .inl (.inl (D1.1 l4 _ n4.1 n4.2 upd_same)), hat, 2, hx, rfl, rfl, ?_⟩
    -- most
    refine ⟨.int 6, rfl, fun dd ndd => ?_⟩
    obtain ⟨mm, hmm, mm1, mm6⟩ := dict_hues hx0 hx2
    refine ⟨upd_same, [(Sum.inl 2, .int 6), (Sum.inl 3, .int 5), (Sum.inl 4, .int 4)], rfl, by decide, .int (2 + hx), rfl, dd, .int mm, rfl, ?_, 6, mm, rfl, ?_⟩
    · have z := DGet.k (k := Sum.inl (2 + hx)) (H := upd (upd H1 dd (.dK [])) dd (.dK (mergeK [] [((Sum.inl 2 : Key), V.int 6), (Sum.inl 3, .int 5), (Sum.inl 4, .int 4)]))) upd_same
      rw [hmm] at z
      exact z
    have ed : upd (upd H1 dd (.dK [])) dd (.dK (mergeK [] [((Sum.inl 2 : Key), V.int 6), (Sum.inl 3, .int 5), (Sum.inl 4, .int 4)])) = upd H1 dd (.dK (mergeK [] [((Sum.inl 2 : Key), V.int 6), (Sum.inl 3, .int 5), (Sum.inl 4, .int 4)])) := upd_upd
    have E2 := E1.same (same_upd (o := .dK (mergeK [] [((Sum.inl 2 : Key), V.int 6), (Sum.inl 3, .int 5), (Sum.inl 4, .int 4)])) ndd)
    rw [← ed] at E2
    generalize upd (upd H1 dd (.dK [])) dd (.dK (mergeK [] [((Sum.inl 2 : Key), V.int 6), (Sum.inl 3, .int 5), (Sum.inl 4, .int 4)])) = H2 at E2
    obtain ⟨o1, o6⟩ : 1 ≤ (if mm < 6 then mm else 6) ∧ (if mm < 6 then mm else 6) ≤ 6 := by split <;> omega
    generalize (if mm < 6 then mm else 6) = most at o1 o6
    have hh2 : 2 ≤ 2 + hx := by omega
    have hh4 : 2 + hx ≤ 4 := by omega
    dsimp only
    generalize 2 + hx = hues at hh2 hh4
    -- many, same
    refine ⟨.ref wl, rfl, .int most, rfl, wl, cl, most, rfl, E2.2, by omega, log_small (by omega) (by omega), fun H3 mn D3 mn0 mn1 => ⟨1, mn, rfl, rfl, ?_⟩⟩
    have E3 := E2.trans D3
    have k1 : 1 ≤ 1 + mn := by omega
    have k6 : 1 + mn ≤ 6 := by omega
    dsimp only
    generalize 1 + mn = many at k1 k6
    refine ⟨.ref wl, rfl, wl, cl, 6, rfl, E3.2, by decide, by decide, fun H4 sm D4 _ _ => ?_⟩
    have E4 := E3.trans D4
    refine ⟨(by show 0 ≤ sizeLine; decide), fun lw nlw => ?_⟩
    have nw := E4.2.new nlw
    have nw0 : H lw = none := E4.free hW nlw
    have E5 := E4.put (o := .lst []) nw0 nw
    have hw5 : upd H4 lw (.lst []) lw = some (.lst []) := upd_same
    generalize upd H4 lw (.lst []) = H5 at E5 hw5
    refine ⟨.ref wl, rfl, .int mw, rfl, mw, 1, rfl, rfl, wl, cl, mw + 1, rfl, E5.2, by omega, log_small (by omega) (by omega), fun H6 nn D6 n0 n1 => ⟨nn, rfl, by omega, by omega, ?_⟩⟩
    have E6 := E5.trans D6
    refine for_range (lo := 0) (n := nn.toNat) (fun i σ H7 => Drawn wl cl H H7 ∧ (∃ (was : List Addr) (wds : List WD), H7 lw = some (.lst (was.map V.ref)) ∧ was.length = i ∧ Paired (IsWish H7) was wds ∧ ∀ wd ∈ wds, Good many hues wd) ∧
      ∃ y8 y9, σ = [some (.ref wl), some (.int 6), some (.int mw), some (.int hues), some (.int most), some (.int many), some (.int sm), some (.ref lw), y8, y9]) ⟨E6, ⟨[], [], D6.1 lw _ nw.1 nw.2 hw5, rfl, .nil, fun _ h => nomatch h⟩, none, none, rfl⟩ (fun i σ H7 hi p => ?_) (fun σ H7 p => ?_)
    · obtain ⟨E7, ⟨was, wds, hw7, wl7, pw, gd⟩, y8, y9, rfl⟩ := p
      refine ⟨.ref wl, rfl, .int many, rfl, .int hues, rfl, wl, cl, many, hues, rfl, E7.2, k1, k6, hh2, hh4, fun H8 wa wd D8 isw gw => ?_⟩
      have E8 := E7.trans D8
      have hw8 := D8.1 lw _ nw.1 nw.2 hw7
      have pw8 := pairedMap (fun _ _ e => IsWish.mono (D8.tups E7.2) e) pw
      refine ⟨fun σ H9 => Drawn wl cl H H9 ∧ H9 lw = some (.lst (was.map V.ref)) ∧ Paired (IsWish H9) was wds ∧ ∃ wa wd, IsWish H9 wa wd ∧ Good many hues wd ∧ σ = [some (.ref wl), some (.int 6), some (.int mw), some (.int hues), some (.int most), some (.int many), some (.int sm), some (.ref lw), some (.int (0 + (i : Int))), some (.ref wa)], ?_, ?_⟩
      · refine ⟨.int sm, rfl, .int (0 + (i : Int)), rfl, rfl, _, rfl, ite2 (fun _ => ?_) (fun _ => ?_)⟩
        · refine ⟨.ref lw, rfl, (by show 0 ≤ sizeLine; decide), fun le nle => ?_⟩
          have se := same_upd (o := .lst []) nle
          have fw : Fine (.list (wds.map wishD)) 5 100000 := (Fine.list (fineAll_map wds fun wd hwd => fine_wish (gd wd hwd) k6 hh4)).mono (by omega) (by
            have := pairedLen pw
            omega)
          refine ⟨.list (wds.map wishD), .list [], .lst (.inl (.inl (se _ _ hw8))) (dpWishes (pairedMap (fun _ _ e => IsWish.mono (tups_same se) e) pw8)), .lst (.inl (.inl upd_same)) .nil, fw.shaped (by decide), PySem.W.shaped_ints [], _, rfl, ?_⟩
          cases pw8 with
          | nil =>
            rw [List.map_nil, eqv_list_nn]
            refine iteF ?_
            exact ⟨E8.same se, se _ _ hw8, .nil, wa, wd, isw.mono (tups_same se), gw, rfl⟩
          | @cons wa0 wd0 was' wds' h0 t0 =>
            rw [List.map_cons, eqv_list_nil]
            refine iteT ?_
            refine ⟨.ref lw, rfl, lw, _, 0, .ref wa0, rfl, rfl, .inl (.inl (se _ _ hw8)), atI_nat (j := 0) rfl, ?_⟩
            exact ⟨E8.same se, se _ _ hw8, pairedMap (fun _ _ e => IsWish.mono (tups_same se) e) (.cons h0 t0), wa0, wd0, h0.mono (tups_same se), gd wd0 List.mem_cons_self, rfl⟩
        · exact ⟨E8, hw8, pw8, wa, wd, isw, gw, rfl⟩
      · intro σ H9 hm
        obtain ⟨E9, hw9, pw9, wa2, wd2, isw2, gw2, rfl⟩ := hm
        refine ⟨.ref lw, rfl, .inl ⟨rfl, _, .inl (.inl hw9)⟩, .ref wa2, rfl, lw, _, _, rfl, rfl, hw9, ?_, ?_⟩
        · rw [List.length_map, wl7]
          exact small1000 (by omega)
        have tu : Tups H9 (upd H9 lw (.lst (was.map V.ref ++ [.ref wa2]))) := tups_upd fun xs z => by rw [hw9] at z; cases z
        refine ⟨E9.put nw0 nw, ⟨was ++ [wa2], wds ++ [wd2], ?_, ?_, (pairedMap (fun _ _ e => IsWish.mono tu e) pw9).snoc (isw2.mono tu), ?_⟩, _, _, rfl⟩
        · rw [upd_same, List.map_append]
          rfl
        · rw [List.length_append, wl7]
          rfl
        · intro wd' h'
          rcases List.mem_append.mp h' with h' | h'
          · exact gd wd' h'
          · rw [List.mem_singleton.mp h']
            exact gw2
    · obtain ⟨E7, ⟨was, wds, hw7, wl7, pw, gd⟩, y8, y9, rfl⟩ := p
      refine ⟨.int many, rfl, .int hues, rfl, .ref lw, rfl, lw, _, rfl, .inl ⟨.inl (.inl hw7), fun wt nwt => ?_⟩⟩
      have st := same_upd (o := .tup (was.map V.ref)) nwt
      refine ⟨(by show 3 ≤ sizeLine; decide), fun ri nri => ?_⟩
      have sr := same_upd (o := .tup [.int many, .int hues, .ref wt]) nri
      refine q _ ri many hues wds ((E7.same st).same sr) ⟨wt, was, upd_same, sr _ _ upd_same, pairedMap (fun _ _ e => IsWish.mono (tups_same (st.trans sr)) e) pw⟩ ⟨k1, k6, hh2, hh4, ?_, gd⟩
      rw [← pairedLen pw]
      omega
end
end Rd

set_option Elab.async false
set_option linter.all false
set_option maxRecDepth 100000
set_option maxHeartbeats 4000000
namespace Rd
open PySem PySem.Spec PyProof.Rows L2 Dt
theorem pairedSnoc {α β : Type} {F : α → β → Prop} {a : α} {b : β} : ∀ {l : List α} {m : List β}, Paired F l m → F a b → Paired F (l ++ [a]) (m ++ [b])
  | _, _, .nil, h => .cons h .nil
  | _, _, .cons h t, k => .cons h (pairedSnoc t k)
abbrev sAlf : Stmt := topS 4
abbrev nAlf : List Str := ["many", "hues", "begun", "place", "filling", "hue"]
theorem scAlf : FnScope nAlf ["many", "hues"] (defScope sAlf) := ⟨rfl, rfl, rfl, by decide +kernel, rfl, by decide +kernel, by decide +kernel⟩
/-- a list of rows -/
def IsFills (H : Hp) (l : Addr) (fss : List (List Int)) : Prop := ∃ as : List Addr, H l = some (.lst (as.map V.ref)) ∧ Paired (IsRow H) as fss
theorem IsFills.same {H H' : Hp} {l : Addr} {fss : List (List Int)} (s : Same H H') (h : IsFills H l fss) : IsFills H' l fss := by
  obtain ⟨as, h1, h2⟩ := h
  exact ⟨as, s _ _ h1, pairedMap (fun _ _ e => s _ _ e) h2⟩
def spAlf : Sp := fun vs H Q _ => ∃ (many hues : Int), vs = [.int many, .int hues] ∧ 0 ≤ many ∧ many ≤ 6 ∧ 0 ≤ hues ∧ hues ≤ 4 ∧
  ∀ H' l, Same H H' → H l = none → IsFills H' l (fillL hues.toNat many.toNat) → Q (.ref l) H'
structure TxtA (mg : Str → Option Value) : Prop where
  m_range : mg "range" = none
theorem yes_if {σ : L2.St} {H : Hp} {A B : Hp → Prop} (h : A H) : tYes σ H (fun b H3 => if b = true then A H3 else B H3) := by
  dsimp only [tYes]
  rw [if_pos rfl]
  exact h
section
variable {P : Program} {w : World} {K : PySem.W.Frag} {mg : Str → Option Value} {base : Heap}
theorem take_snoc {α : Type} {l : List α} {i : Nat} {x : α} (h : l[i]? = some x) : l.take (i + 1) = l.take i ++ [x] := by rw [List.take_add_one, h]; rfl
theorem longer_at {hues j : Nat} (f : List Int) (h : j < hues) : (longer hues f)[j]? = some (f ++ [(j : Int)]) := by
  unfold longer
  rw [List.getElem?_map, List.getElem?_range h]
  rfl
set_option maxHeartbeats 16000000 in
theorem ok_alf {f : Addr} {fd : FuncData} {k : Nat} (F : Fun K "all_fillings" "all_fillings" sAlf f fd) (T : TxtA mg) : FnOk P w K mg base CX0 (k + 1) f fd ["many", "hues"] spAlf := by
  refine F.ok scAlf (fun vs H Q E h => ?_) (fun cdv A outer s H vs Q E hr h => ?_)
  · obtain ⟨many, hues, rfl, _⟩ := h
    rfl
  · obtain ⟨many, hues, rfl, m0, m6, h0, h4, q⟩ := h
    refine ⟨_, (pss_cons (ps_set (i := 2) scAlf.nd rfl (Or.inl rfl) (pe_lst (pa_cons (pe_tup pa_nil) pa_nil)))
  (pss_cons (ps_for PassesOwn.never rfl (pi_range1 (by rfl) T.m_range (pa_cons (pv 0) pa_nil)) (pg_name (i := 3) scAlf.nd rfl (Or.inl rfl))
  (pss_one (ps_setLc2 (i := 2) (te := tOp (rCatA K) (tVar 4) (tTup (tCons (tVar 5) tNil))) (own := [("filling", 4), ("hue", 5)]) (vs1 := [5]) rfl scAlf.nd rfl rfl (sw_true rfl rfl rfl (by decide +kernel)) (pi_list (pv 2)) (blkOk_by (own := [("filling", 4), ("hue", 5)]) (N := nAlf) (sc := defScope sAlf) (by decide +kernel)) (by decide)
   (fun _ _ _ _ _ => (pg_name (i := 4) scAlf.nd rfl (Or.inl rfl))) (fun _ _ _ _ _ => pts_nil) (fun _ _ _ _ _ => (pi_range1 (by rfl) T.m_range (pa_cons (pv 1) pa_nil))) (fun _ _ _ _ _ => (pg_name (i := 5) scAlf.nd rfl (Or.inl rfl))) (fun _ _ _ _ _ => pts_nil) (fun _ _ _ _ _ => (pe_op op_catA (pv 4) (pe_tup (pa_cons (pv 5) pa_nil)))))))
  (pss_one (ps_ret (pv 2))))), ?_⟩
    refine ⟨(by show 0 ≤ sizeLine; decide), fun t nt => ⟨(by show 1 ≤ sizeLine; decide), fun l nl => ?_⟩⟩
    have st := same_upd (o := .tup []) nt
    have sl := same_upd (o := .lst [.ref t]) nl
    refine ⟨.int many, rfl, many, rfl, by omega, by omega, for_range (lo := 0) (n := many.toNat) (fun i σ H3 => Same H H3 ∧ ∃ l, H l = none ∧ IsFills H3 l (fillL hues.toNat i) ∧ ∃ y3, σ = [some (.int many), some (.int hues), some (.ref l), y3, none, none]) ⟨st.trans sl, l, st.free nl, ⟨[t], upd_same, .cons (sl _ _ upd_same) .nil⟩, none, rfl⟩ (fun i σ H3 hi p => ?_) (fun σ H3 p => ?_)⟩
    · obtain ⟨sm, l, nl, ⟨as, hl, pr⟩, y3, rfl⟩ := p
      have flen := fill_len hues.toNat i
      have p4 : hues.toNat ^ i ≤ 4096 := pow_le_4096 (by omega) (by omega)
      have alen := pairedLen pr
      refine ⟨.ref l, rfl, l, rfl, ⟨_, .inl (.inl hl)⟩, fun D nD => Cp.lc2_list (K := K) (a := l) (xs := as.map V.ref) (fun i2 H5 => Same H3 H5 ∧ IsFills H5 D (((fillL hues.toNat i).take i2).flatMap (longer hues.toNat))) ⟨same_upd nD, [], upd_same, .nil⟩ (fun i2 H5 _ pp => .inl (.inl (pp.1 _ _ hl))) (fun i2 x H5 hx pp => ?_) (fun H5 pp => ?_)⟩
      · rw [List.getElem?_map] at hx
        cases ea : as[i2]? with
        | none => rw [ea] at hx; cases hx
        | some a =>
          rw [ea] at hx
          cases hx
          obtain ⟨fl, hfl, isr⟩ := pairedGetL pr ea
          have hi2 := (List.getElem?_eq_some_iff.mp ea).1
          obtain ⟨s5, fs5⟩ := pp
          refine ⟨rfl, yes_if ?_⟩
          refine ⟨.int hues, rfl, hues, rfl, by omega, by omega, ?_⟩
          dsimp only
          refine Cp.lcin_range (lo := 0) (n := hues.toNat) (fun j H6 => Same H3 H6 ∧ IsFills H6 D (((fillL hues.toNat i).take i2).flatMap (longer hues.toNat) ++ (longer hues.toNat fl).take j)) ⟨s5, by rw [List.take_zero, List.append_nil]; exact fs5⟩ (fun j H6 hj pp => ?_) (fun H6 pp => ?_)
          · obtain ⟨s6, bs, hb, pb⟩ := pp
            have blen := pairedLen pb
            have bound : bs.length ≤ 20000 := by
              rw [blen, List.length_append, flat_len, List.length_take, List.length_take, longer_len, flen]
              have : min i2 (hues.toNat ^ i) * hues.toNat ≤ 4096 * 4 := Nat.mul_le_mul (by omega) (by omega)
              omega
            have fin : ∀ (H7 : Hp) (r : Addr), Same H6 H7 → H7 r = some (.tup ((fl ++ [(j : Int)]).map V.int)) → ∃ acc, H7 D = some (.lst acc) ∧ acc.length < sizeLine ∧ (Same H3 (upd H7 D (.lst (acc ++ [.ref r]))) ∧ IsFills (upd H7 D (.lst (acc ++ [.ref r]))) D (((fillL hues.toNat i).take i2).flatMap (longer hues.toNat) ++ (longer hues.toNat fl).take (j + 1))) := fun H7 r s7 hr7 => by
              have hD7 := s7 _ _ hb
              have tu : Tups H7 (upd H7 D (.lst (bs.map V.ref ++ [.ref r]))) := tups_upd fun xs z => by rw [hD7] at z; cases z
              refine ⟨_, hD7, ?_, fun b o e => ?_, bs ++ [r], ?_, ?_⟩
              · rw [List.length_map]
                exact Nat.lt_of_le_of_lt bound (by decide)
              · rw [upd_ne (ne_of_none e nD)]
                exact s7 _ _ (s6 b o e)
              · rw [upd_same, List.map_append]
                rfl
              · rw [take_snoc (longer_at fl hj), ← List.append_assoc]
                exact pairedSnoc (pairedMap (fun _ _ e => tu _ _ (s7 _ _ e)) pb) (tu _ _ hr7)
            refine ⟨rfl, yes_if ?_⟩
            refine ⟨.ref a, rfl, .int (0 + (j : Int)), rfl, (by show 1 ≤ sizeLine; decide), fun t nt => ?_⟩
            have sT := same_upd (o := .tup [.int (0 + (j : Int))]) nt
            have ha : upd H6 t (.tup [.int (0 + (j : Int))]) a = some (.tup (fl.map V.int)) := sT _ _ (s6 _ _ isr)
            have e0 : (0 : Int) + (j : Int) = j := Int.zero_add _
            have flen2 := (fill_good (List.mem_of_getElem? hfl)).1
            refine ⟨a, t, _, _, rfl, rfl, .inl (.inl ha), .inl (.inl upd_same), ?_, fun z => ?_, (fun _ z => nomatch z), fun z _ p np => ?_⟩
            · rw [List.length_map, flen2]
              exact Nat.le_of_lt (small1000 (by show i + 1 ≤ 1000; omega))
            · have z2 : fl = [] := List.map_eq_nil_iff.mp z
              refine fin _ t sT ?_
              rw [upd_same, z2, e0]
              rfl
            · have sp := same_upd (o := .tup (fl.map V.int ++ [.int (0 + (j : Int))])) np
              refine fin _ p (sT.trans sp) ?_
              rw [upd_same, e0, List.map_append]
              rfl
          · obtain ⟨s6, fs6⟩ := pp
            refine ⟨s6, ?_⟩
            rw [take_snoc hfl, List.flatMap_append]
            have e : (longer hues.toNat fl).take hues.toNat = [fl].flatMap (longer hues.toNat) := by
              rw [List.take_of_length_le (by rw [longer_len]; exact Nat.le_refl _)]
              simp
            rw [← e]
            exact fs6
      · obtain ⟨s5, fs5⟩ := pp
        refine ⟨sm.trans s5, D, sm.free nD, ?_, _, rfl⟩
        rw [List.length_map, alen, List.take_length] at fs5
        exact fs5
    · obtain ⟨sm, l, nl, fs, y3, rfl⟩ := p
      exact ⟨.ref l, rfl, q H3 l sm nl fs⟩
end
end Rd

set_option Elab.async false
set_option linter.all false
set_option maxRecDepth 100000
set_option maxHeartbeats 4000000
namespace Rd
open PySem PySem.Spec PyProof.Rows L2 Dt
abbrev sCnt : Stmt := topS 5
abbrev nCnt : List Str := ["riddle", "many", "hues", "wishes", "numbers", "filling"]
theorem scCnt : FnScope nCnt ["riddle"] (defScope sCnt) := ⟨rfl, rfl, rfl, by decide +kernel, rfl, by decide +kernel, by decide +kernel⟩
theorem Fr1.tab {P P2 : Addr} {H H' : Hp} (f : Fr1 P H H') (t : GxR.TabG H P2) : GxR.TabG H' P2 := by
  by_cases e : P2 = P
  · rw [e]; exact f.2
  · obtain ⟨ps, hp, ht⟩ := t
    exact ⟨ps, f.1 _ _ e hp, ht⟩
/-- a new object, written on -/
theorem Fr1.put {P : Addr} {H H' : Hp} {l : Addr} {o : HO} (t : GxR.TabG H P) (f : Fr1 P H H') (n : H l = none) : Fr1 P H (upd H' l o) := by
  have nl : l ≠ P := fun z => by
    obtain ⟨ps, e, _⟩ := t
    rw [← z, n] at e
    cases e
  refine ⟨fun b o2 nb e => ?_, ?_⟩
  · rw [upd_ne (ne_of_none e n)]
    exact f.1 b o2 nb e
  · obtain ⟨ps, e1, e2⟩ := f.2
    exact ⟨ps, by rw [upd_ne (Ne.symm nl)]; exact e1, e2⟩
theorem Fr1.keep {P : Addr} {H H' : Hp} {l : Addr} {xs : List V} (t : GxR.TabG H P) (f : Fr1 P H H') (e : H l = some (.lst xs)) : H' l = some (.lst xs) := f.1 l _ (fun z => by
  obtain ⟨ps, hp, _⟩ := t
  rw [z, hp] at e
  cases e) e
theorem ix_nat {n j : Nat} (hj : j < n) : ixN n (j : Int) = some j := by
  unfold ixN
  rw [if_pos (by omega), if_pos (by omega)]
  simp
/-- the heap without l -/
def wo (H : Hp) (l : Addr) : Hp := fun b => if b = l then none else H b
theorem wo_of {H : Hp} {l b : Addr} {o : HO} (n : b ≠ l) (e : H b = some o) : wo H l b = some o := by
  unfold wo
  rw [if_neg n]
  exact e
theorem wo_to {H : Hp} {l b : Addr} {o : HO} (e : wo H l b = some o) : H b = some o := by
  unfold wo at e
  by_cases z : b = l
  · rw [if_pos z] at e; cases e
  · rw [if_neg z] at e; exact e
theorem wo_self {H : Hp} {l : Addr} : wo H l l = none := by
  unfold wo
  rw [if_pos rfl]
theorem wo_tups {H : Hp} {l : Addr} {xs : List V} (h : H l = some (.lst xs)) : Tups H (wo H l) := fun b ys e => wo_of (fun z => by rw [z, h] at e; cases e) e
def spCnt (Pt : Addr) : Sp := fun vs H Q _ => ∃ (ri : Addr) (wds : List WD) (many hues : Int), vs = [.ref ri] ∧ IsRid H ri many hues wds ∧ GoodR many hues wds ∧ GxR.TabG H Pt ∧
  ∀ H' l, Fr1 Pt H H' → H l = none → H' l = some (.lst ((cntL wds (fillL hues.toNat many.toNat)).map V.int)) → Q (.ref l) H'
structure TxtC (P : Program) (w : World) (K : PySem.W.Frag) (mg : Str → Option Value) (base : Heap) (Pt : Addr) : Prop where
  m_len : mg "len" = none
  c_all_fillings : Cal P w K mg base 1 "all_fillings" ["many", "hues"] spAlf
  c_broken : Cal P w K mg base 3 "broken" ["riddle", "filling"] (spBro Pt)
theorem rep_zero (n : Nat) : (List.replicate n [V.int 0]).flatten = (List.replicate n (0 : Int)).map V.int := by
  induction n with
  | zero => rfl
  | succ n ih => rw [List.replicate_succ, List.flatten_cons, ih, List.replicate_succ]; rfl
section
variable {P : Program} {w : World} {K : PySem.W.Frag} {mg : Str → Option Value} {base : Heap}
theorem ok_cnt {f Pt : Addr} {fd : FuncData} {k : Nat} (F : Fun K "counts" "counts" sCnt f fd) (T : TxtC P w K mg base Pt) : FnOk P w K mg base CX0 (k + 4) f fd ["riddle"] (spCnt Pt) := by
  refine F.ok scCnt (fun vs H Q E h => ?_) (fun cdv A outer s H vs Q E hr h => ?_)
  · obtain ⟨ri, wds, many, hues, rfl, _⟩ := h
    rfl
  · obtain ⟨ri, wds, many, hues, rfl, hrd, gr, hT, q⟩ := h
    have hr1 : Room 1 (A.deeper (envOfC (Str.ofString "counts") (defScope sCnt) s.heap.objs.size f cdv)) := hr.mono (by omega)
    have hr3 : Room 3 (A.deeper (envOfC (Str.ofString "counts") (defScope sCnt) s.heap.objs.size f cdv)) := hr.mono (by omega)
    refine ⟨_, (pss_cons (ps_asg (pv 0) (pg_tup rfl (pgs_cons (pg_name (i := 1) scCnt.nd rfl (Or.inl rfl)) (pgs_cons (pg_name (i := 2) scCnt.nd rfl (Or.inl rfl)) (pgs_cons (pg_name (i := 3) scCnt.nd rfl (Or.inl rfl)) pgs_nil)))))
  (pss_cons (ps_set (i := 4) scCnt.nd rfl (Or.inl rfl) (pe_op op_rep (pe_lst (pa_cons pe_int pa_nil)) (pe_op op_add (pe_callB call_len_seq (by rfl) T.m_len (by decide +kernel) (pa_cons (pv 3) pa_nil)) pe_int)))
  (pss_cons (ps_for PassesOwn.never rfl (pi_list (pe_cal T.c_all_fillings hr1 (by rfl) (pa_cons (pv 1) (pa_cons (pv 2) pa_nil)))) (pg_name (i := 5) scCnt.nd rfl (Or.inl rfl))
  (pss_one (ps_augS (pv 4) (pe_callB call_len_seq (by rfl) T.m_len (by decide +kernel) (pa_cons (pe_cal T.c_broken hr3 (by rfl) (pa_cons (pv 0) (pa_cons (pv 5) pa_nil))) pa_nil)) Cp.pget_list pe_int ip_add set_list)))
  (pss_one (ps_ret (pv 4)))))), ?_⟩
    obtain ⟨wt, was, h1, h2, h3⟩ := id hrd
    have hl : was.length = wds.length := pairedLen h3
    have m1 := gr.m1
    have m6 := gr.m6
    have hh2 := gr.h2
    have hh4 := gr.h4
    have e8 := gr.eight
    refine ⟨.ref ri, rfl, ri, _, rfl, .inl (.inl h1), rfl, .int many, [.int hues, .ref wt], rfl, .int hues, [.ref wt], rfl, .ref wt, [], rfl, rfl, ?_⟩
    refine ⟨(by show 1 ≤ sizeLine; decide), fun l0 nl0 => ?_⟩
    have s0 := same_upd (o := .lst [.int 0]) nl0
    refine ⟨.ref wt, rfl, wt, was.map V.ref, rfl, .inr (.inl (.inl (s0 _ _ h2))), _, _, rfl, rfl, ?_⟩
    have ew : ((was.map V.ref).length : Int) + 1 = ((wds.length + 1 : Nat) : Int) := by rw [List.length_map, hl]; omega
    refine ⟨l0, ((wds.length + 1 : Nat) : Int), _, rfl, congrArg V.int ew, upd_same, by omega, by omega, ?_, fun l nl => ?_⟩
    · rw [Int.toNat_natCast]
      exact Nat.le_of_lt (small1000 (by show 1 * (wds.length + 1) ≤ 1000; omega))
    rw [Int.toNat_natCast, rep_zero]
    have s1 := same_upd (o := .lst ((List.replicate (wds.length + 1) (0 : Int)).map V.int)) nl
    have nl2 : H l = none := s0.free nl
    refine ⟨.int many, rfl, .int hues, rfl, many, hues, rfl, by omega, by omega, by omega, by omega, fun H2 lf s2 nlf fs => ?_⟩
    have s02 := (s0.trans s1).trans s2
    obtain ⟨as, hlf, pa⟩ := fs
    have hal := pairedLen pa
    have nlf0 : H lf = none := (s0.trans s1).free nlf
    have nll : lf ≠ l := fun z => by rw [z, upd_same] at nlf; cases nlf
    refine ⟨lf, rfl, ⟨_, .inl (.inl hlf)⟩, ?_⟩
    have hl2 : H2 l = some (.lst ((cnt0 wds).map V.int)) := s2 _ _ upd_same
    have tw : GxR.TabG (wo H2 l) Pt := by
      obtain ⟨ps, e, h⟩ := hT
      exact ⟨ps, wo_of (fun z => by rw [z, nl2] at e; cases e) (s02 _ _ e), h⟩
    refine for_list (K := K) (a := lf) (xs := as.map V.ref) (fun i σ H3 => Fr1 Pt (wo H2 l) H3 ∧ H3 l = some (.lst ((cntL wds ((fillL hues.toNat many.toNat).take i)).map V.int)) ∧ ∃ y5, σ = [some (.ref ri), some (.int many), some (.int hues), some (.ref wt), some (.ref l), y5]) ⟨⟨fun b o _ e => wo_to e, ?_⟩, hl2, none, rfl⟩ (fun i σ H3 _ p => .inl (.inl (p.1.keep tw (wo_of nll hlf)))) (fun i x σ H3 hx p => ?_) (fun σ H3 p => ?_)
    · obtain ⟨ps, e, h⟩ := hT
      exact ⟨ps, s02 _ _ e, h⟩
    · obtain ⟨fr, hL, y5, rfl⟩ := p
      rw [List.getElem?_map] at hx
      cases ea : as[i]? with
      | none => rw [ea] at hx; cases hx
      | some a =>
        rw [ea] at hx
        cases hx
        obtain ⟨fl, hfl, isr⟩ := pairedGetL pa ea
        have t3 : Tups H2 H3 := (wo_tups hl2).trans (fr.tups tw)
        have gf := fill_goodF (by omega) (by omega) (List.mem_of_getElem? hfl)
        refine ⟨.ref l, rfl, .ref ri, rfl, .ref a, rfl, ri, a, fl, wds, many, hues, rfl, (hrd.mono (tups_same s02)).mono t3, t3 _ _ isr, gf, gr, fr.2, fun H4 lb fr4 nlb hlb => ?_⟩
        have hL4 := fr4.keep fr.2 hL
        generalize hcl : cntL wds ((fillL hues.toNat many.toNat).take i) = cl at hL hL4
        have bl := broL_len fl wds wds.length
        have cl2 : cl.length = wds.length + 1 := by rw [← hcl]; exact cnt_len _ _
        have bk : (broL fl wds wds.length).length < cl.length := by omega
        obtain ⟨c, hc⟩ : ∃ c, cl[(broL fl wds wds.length).length]? = some c := ⟨_, List.getElem?_eq_getElem bk⟩
        refine ⟨lb, _, rfl, .inl (.inl (.inl hlb)), l, _, (broL fl wds wds.length).length, .int c, rfl, by rw [List.length_map], .inl (.inl hL4), by rw [List.getElem?_map, hc]; rfl, c, 1, rfl, rfl, l, _, ((broL fl wds wds.length).length : Int), (broL fl wds wds.length).length, rfl, by rw [List.length_map], hL4, ?_, ?_⟩
        · rw [List.length_map]
          exact ix_nat bk
        · refine ⟨(fr.trans fr4).put tw wo_self, ?_, _, rfl⟩
          rw [upd_same, take_snoc hfl, cnt_snoc, hcl, bump_eq hc, List.map_set]
    · obtain ⟨fr, hL, y5, rfl⟩ := p
      rw [List.length_map, hal, List.take_length] at hL
      refine ⟨.ref l, rfl, q H3 l ⟨fun b o nb e => fr.1 b o nb (wo_of (ne_of_none e nl2) (s02 _ _ e)), fr.2⟩ nl2 hL⟩
end
end Rd

set_option Elab.async false
set_option linter.all false
set_option maxRecDepth 100000
set_option maxHeartbeats 4000000
namespace Rd
open PySem PySem.Spec PyProof.Rows L2 Dt
abbrev sCla : Stmt := topS 6
abbrev sCls : Stmt := topS 7
abbrev nCla : List Str := ["one", "other", "place"]
abbrev nCls : List Str := ["riddle", "wishes", "wish", "number", "other"]
theorem scCla : FnScope nCla ["one", "other"] (defScope sCla) := ⟨rfl, rfl, rfl, by decide +kernel, rfl, by decide +kernel, by decide +kernel⟩
theorem scCls : FnScope nCls ["riddle"] (defScope sCls) := ⟨rfl, rfl, rfl, by decide +kernel, rfl, by decide +kernel, by decide +kernel⟩
def spCla (Pc : Addr) : Sp := fun vs H Q _ => ∃ (wa wb : Addr) (a b : WD), vs = [.ref wa, .ref wb] ∧ IsWish H wa a ∧ IsWish H wb b ∧ GxR.TabG H Pc ∧ ∀ H', Fr1 Pc H H' → Q (.bl (clB a b)) H'
/-- a list of new lists, each by itself -/
def IsLL (H H' : Hp) (l : Addr) (rows : List (List Int)) : Prop := ∃ ls : List Addr, H' l = some (.lst (ls.map V.ref)) ∧ Paired (fun la row => H' la = some (.lst (row.map V.int))) ls rows ∧ ls.Nodup ∧ l ∉ ls ∧ ∀ la ∈ ls, H la = none
def spCls (Pc : Addr) : Sp := fun vs H Q _ => ∃ (ri : Addr) (wds : List WD) (many hues : Int), vs = [.ref ri] ∧ IsRid H ri many hues wds ∧ GoodR many hues wds ∧ GxR.TabG H Pc ∧
  ∀ H' l, Fr1 Pc H H' → H l = none → IsLL H H' l (clsAll wds) → Q (.ref l) H'
structure TxtS (P : Program) (w : World) (K : PySem.W.Frag) (mg : Str → Option Value) (base : Heap) (Pc : Addr) : Prop where
  m_enumerate : mg "enumerate" = none
  c_clash : Cal P w K mg base 1 "clash" ["one", "other"] (spCla Pc)
section
variable {P : Program} {w : World} {K : PySem.W.Frag} {mg : Str → Option Value} {base : Heap}
theorem ok_cla {f c Pc : Addr} {fd : FuncData} {k : Nat} (F : FunC K "clash" "clash" sCla f fd (.ref c)) (TB : GxR.TabB base mg c Pc) (ma : mg "any" = none) : FnOk P w K mg base CX0 (k + 1) f fd ["one", "other"] (spCla Pc) := by
  refine F.ok scCla (fun vs H Q E h => ?_) (fun A outer s H vs Q E hr h => ?_)
  · obtain ⟨wa, wb, a, b, rfl, _⟩ := h
    rfl
  · obtain ⟨wa, wb, a, b, rfl, ha, hb, hT, q⟩ := h
    refine ⟨_, pss_one (ps_ret (Gv.pe_anyG (x := "place") hr (by rfl) ma TB rfl ⟨rfl, rfl, by decide +kernel, rfl, rfl, fun y hy e => ?_⟩ (pe_ix ix_tup (pv 0) pe_int (fun _ _ => rfl)) (fun _ => rfl))), ?_⟩
    · match y, hy, e with
      | _, .head _, e => exact nomatch e
      | _, .tail _ (.head _), e => exact nomatch e
      | _, .tail _ (.tail _ (.head _)), _ => exact ⟨_, rfl⟩
    obtain ⟨pa, ra, rs, a1, a2, a3, a4⟩ := ha
    obtain ⟨pb, rb, rs2, b1, b2, b3, b4⟩ := hb
    refine ⟨.ref wa, rfl, wa, _, 0, _, rfl, rfl, .inl (.inl a1), rfl, pa, a.1.map V.int, (a.1.map fun p => decide (p ∈ b.1)).map V.bl, rfl, .inr (.inl (.inl a2)), by simp, fun pins => Gv.elt_in0 (j := 1) (ns := b.1) rfl rfl rfl rfl rfl rfl rfl (.inl (.inl b1)) (.inl (.inl b2)) hT hr.units fun i x0 hx => ?_, hT, _, rfl, fun H2 hb => ?_⟩
    · rw [List.getElem?_map] at hx
      cases e : a.1[i]? with
      | none => rw [e] at hx; cases hx
      | some n =>
        rw [e] at hx
        cases hx
        refine ⟨n, rfl, ?_⟩
        rw [List.getElem?_map, List.getElem?_map, e]
        rfl
    · have fr : Fr1 Pc H H2 := ⟨fun b o n e => by rw [hb.2 b n]; exact e, hb.1⟩
      have e : (List.map (fun p => decide (p ∈ b.1)) a.1).any id = clB a b := by
        rw [List.any_map]
        rfl
      rw [e]
      exact q H2 fr
theorem ok_cls {f Pc : Addr} {fd : FuncData} {k : Nat} (F : Fun K "clashing" "clashing" sCls f fd) (T : TxtS P w K mg base Pc) : FnOk P w K mg base CX0 (k + 2) f fd ["riddle"] (spCls Pc) := by
  refine F.ok scCls (fun vs H Q E h => ?_) (fun cdv A outer s H vs Q E hr h => ?_)
  · obtain ⟨ri, wds, many, hues, rfl, _⟩ := h
    rfl
  · obtain ⟨ri, wds, many, hues, rfl, hrd, gr, hT, q⟩ := h
    have hr1 : Room 1 (A.deeper (envOfC (Str.ofString "clashing") (defScope sCls) s.heap.objs.size f cdv)) := hr.mono (by omega)
    refine ⟨_, (pss_cons (ps_set (i := 1) scCls.nd rfl (Or.inr rfl) (pe_ix ix_tup (pv 0) pe_int (fun _ _ => rfl)))
  (pss_one (ps_ret (pe_lc (te := tLc (Et.iEnumT K (tCons (tVar 1) tNil)) (gTup K 2 (gCons (gName 3) (gCons (gName 4) gNil))) (tB (tCall (spCla Pc) [] E0 (tCons (tVar 2) (tCons (tVar 4) tNil)))) (tVar 3) [3, 4]) (own := [("wish", 2)]) rfl scCls.nd  (pi_tup (pv 1)) (blkOk_by (own := [("wish", 2)]) (N := nCls) (sc := defScope sCls) (by decide +kernel))
   (fun _ _ _ _ _ => (pg_name (i := 2) scCls.nd rfl (Or.inr rfl))) (fun _ _ _ _ _ => pts_nil) (fun _ _ _ _ _ => (pe_lc (own := [("number", 3), ("other", 4)]) rfl scCls.nd  (Et.pi_enumT (by rfl) T.m_enumerate (pa_cons (pv 1) pa_nil)) (blkOk_by (own := [("number", 3), ("other", 4)]) (N := nCls) (sc := { kind := .function, names := [(".0", .local), ("wish", .cell), ("enumerate", .globalImplicit), ("wishes", .cell)], isGenerator := false, isCoroutine := false }) (by decide +kernel))
   (fun _ _ _ _ _ => (pg_tup rfl (pgs_cons (pg_name (i := 3) scCls.nd rfl (Or.inl rfl)) (pgs_cons (pg_name (i := 4) scCls.nd rfl (Or.inl rfl)) pgs_nil)))) (fun _ _ _ _ _ => pts_one (pt_val (pe_cal T.c_clash hr1 (by rfl) (pa_cons (pv 2) (pa_cons (pv 4) pa_nil))))) (fun _ _ _ _ _ => (pv 3)))))))), ?_⟩
    obtain ⟨wt, was, h1, h2, h3⟩ := id hrd
    have hl : was.length = wds.length := pairedLen h3
    have e8 := gr.eight
    refine ⟨.ref ri, rfl, ri, _, 2, _, rfl, rfl, .inl (.inl h1), rfl, ?_⟩
    refine ⟨.ref wt, rfl, wt, rfl, ⟨_, .inl (.inl h2)⟩, fun D nD => ?_⟩
    refine lc_tup (K := K) (a := wt) (xs := was.map V.ref) (fun i H3 => Fr1 Pc H H3 ∧ IsLL H H3 D ((wds.take i).map fun wd => clsL wds wd wds.length)) ⟨Fr1.of hT (same_upd nD), [], upd_same, .nil, List.nodup_nil, List.not_mem_nil, fun _ z => nomatch z⟩ (fun i H3 _ p => .inl (.inl (p.1.tups hT _ _ h2))) (fun i x H3 hx p => ?_) (fun H3 p => ?_)
    · obtain ⟨fr, ls, hD, pl, nd, nDl, fl⟩ := p
      rw [List.getElem?_map] at hx
      cases ew : was[i]? with
      | none => rw [ew] at hx; cases hx
      | some wa =>
        rw [ew] at hx
        cases hx
        obtain ⟨wd, hwd, isw⟩ := pairedGetL h3 ew
        have hi : i < was.length := (List.getElem?_eq_some_iff.mp ew).1
        refine ⟨rfl, yes_if ?_⟩
        refine ⟨.ref wt, rfl, wt, was.map V.ref, rfl, .inl (.inl (fr.tups hT _ _ h2)), fun D2 nD2 => ?_⟩
        refine Et.lc_enumT (K := K) (a := wt) (xs := was.map V.ref) (fun j H5 => Fr1 Pc H3 H5 ∧ H5 D2 = some (.lst ((clsL wds wd j).map V.int))) ⟨Fr1.of fr.2 (same_upd nD2), upd_same⟩ (fun j H5 _ pp => .inl (.inl ((fr.trans pp.1).tups hT _ _ h2))) (fun j x H5 T2 hx pp nT => ?_) (fun H5 pp => ?_)
        · obtain ⟨fr5, hD5⟩ := pp
          rw [List.getElem?_map] at hx
          cases eb : was[j]? with
          | none => rw [eb] at hx; cases hx
          | some wb =>
            rw [eb] at hx
            cases hx
            obtain ⟨wd2, hwd2, isw2⟩ := pairedGetL h3 eb
            have hj : j < was.length := (List.getElem?_eq_some_iff.mp eb).1
            have sT := same_upd (o := .tup [.int (j : Nat), .ref wb]) nT
            have fr6 := (fr.trans fr5).same sT
            have t6 := fr6.tups hT
            refine ⟨T2, [.int j, .ref wb], rfl, .inl (.inl upd_same), rfl, .int j, [.ref wb], rfl, .ref wb, [], rfl, rfl, rfl, ?_⟩
            refine ⟨.ref wa, rfl, .ref wb, rfl, wa, wb, wd, wd2, rfl, isw.mono t6, isw2.mono t6, fr6.2, fun H7 fr7 => ⟨_, rfl, ?_⟩⟩
            have fr57 := (fr5.same sT).trans fr7
            have hD7 : H7 D2 = some (.lst ((clsL wds wd j).map V.int)) := fr7.keep fr6.2 (sT _ _ hD5)
            have ec := clAt_of (a := wd) hwd2
            refine ite2 (fun e => ?_) (fun e => ?_)
            · refine ⟨.int j, rfl, _, hD7, ?_, fr57.put fr.2 nD2, ?_⟩
              · rw [List.length_map]
                have := clsL_len wds wd j
                exact small1000 (by omega)
              · rw [upd_same, clsL_yes (ec.trans e), List.map_append]
                rfl
            · refine ⟨fr57, ?_⟩
              rw [clsL_no (ec.trans (by simpa using e))]
              exact hD7
        · obtain ⟨fr5, hD5⟩ := pp
          rw [List.length_map, hl] at hD5
          have hD5' := fr5.keep fr.2 hD
          have nn : H D2 = none := fr.free hT nD2
          have nDD : D2 ≠ D := fun z => by rw [z, hD] at nD2; cases nD2
          have lsl := pairedLen pl
          have keepL : ∀ la row, H3 la = some (.lst row) → la ≠ D → upd H5 D (.lst (ls.map V.ref ++ [.ref D2])) la = some (.lst row) := fun la row e n => by
            rw [upd_ne n]
            exact fr5.keep fr.2 e
          have inl : ∀ {l : List Addr} {m : List (List Int)}, Paired (fun la row => H3 la = some (.lst (row.map V.int))) l m → D ∉ l → Paired (fun la row => upd H5 D (.lst (ls.map V.ref ++ [.ref D2])) la = some (.lst (row.map V.int))) l m := fun {l m} p => by
            induction p with
            | nil => exact fun _ => .nil
            | cons h t ih => exact fun n => .cons (keepL _ _ h (fun z => n (by rw [z]; exact List.mem_cons_self))) (ih fun z => n (List.mem_cons_of_mem _ z))
          have n2 : D2 ∉ ls := fun z => by
            obtain ⟨j, hj⟩ := List.getElem?_of_mem z
            obtain ⟨row, _, e⟩ := pairedGetL pl hj
            rw [nD2] at e
            cases e
          refine ⟨_, hD5', ?_, (fr.trans fr5).put hT nD, ls ++ [D2], ?_, ?_, ?_, ?_, ?_⟩
          · rw [List.length_map, lsl, List.length_map, List.length_take]
            exact small1000 (by omega)
          · rw [upd_same, List.map_append]
            rfl
          · rw [take_snoc hwd, List.map_append]
            refine (inl pl nDl).snoc ?_
            rw [upd_ne nDD]
            exact hD5
          · exact List.nodup_append.mpr ⟨nd, by simp, fun a ha b hb e => n2 (by rw [← List.mem_singleton.mp hb, ← e]; exact ha)⟩
          · exact fun z => (List.mem_append.mp z).elim nDl fun z => nDD (List.mem_singleton.mp z).symm
          · exact fun la z => (List.mem_append.mp z).elim (fl la) fun z => by rw [List.mem_singleton.mp z]; exact nn
    · obtain ⟨fr, ll⟩ := p
      rw [List.length_map, hl, List.take_length] at ll
      exact q H3 D fr nD ll
end
end Rd

set_option Elab.async false
set_option linter.all false
set_option maxRecDepth 100000
set_option maxHeartbeats 4000000
namespace Rd
open PySem PySem.Spec PyProof.Rows L2 Dt
abbrev sLfi : Stmt := topS 14
abbrev sLco : Stmt := topS 16
abbrev sLcl : Stmt := topS 17
abbrev nLfi : List Str := ["riddle", "found", "place", "longer", "some", "hue"]
abbrev nLco : List Str := ["riddle", "found", "filling", "many"]
abbrev nLcl : List Str := ["riddle", "found", "places", "rows", "some", "others", "more", "one", "k"]
theorem scLfi : FnScope nLfi ["riddle"] (defScope sLfi) := ⟨rfl, rfl, rfl, by decide +kernel, rfl, by decide +kernel, by decide +kernel⟩
theorem scLco : FnScope nLco ["riddle"] (defScope sLco) := ⟨rfl, rfl, rfl, by decide +kernel, rfl, by decide +kernel, by decide +kernel⟩
theorem scLcl : FnScope nLcl ["riddle"] (defScope sLcl) := ⟨rfl, rfl, rfl, by decide +kernel, rfl, by decide +kernel, by decide +kernel⟩
theorem pairedApp {α β : Type} {F : α → β → Prop} {l2 : List α} {m2 : List β} : ∀ {l : List α} {m : List β}, Paired F l m → Paired F l2 m2 → Paired F (l ++ l2) (m ++ m2)
  | _, _, .nil, h => h
  | _, _, .cons h t, k => .cons h (pairedApp t k)
def spLfi : Sp := fun vs H Q _ => ∃ (ri : Addr) (wds : List WD) (many hues : Int), vs = [.ref ri] ∧ IsRid H ri many hues wds ∧ GoodR many hues wds ∧
  ∀ H' l, Same H H' → H l = none → IsFills H' l (fillL hues.toNat many.toNat) → Q (.ref l) H'
def spLco : Sp := fun vs H Q _ => ∃ (ri : Addr) (wds : List WD) (many hues : Int), vs = [.ref ri] ∧ IsRid H ri many hues wds ∧ GoodR many hues wds ∧
  ∀ H' l, Same H H' → H l = none → H' l = some (.lst ((cntL wds (fillL hues.toNat many.toNat)).map V.int)) → Q (.ref l) H'
/-- a list of lists of ints -/
def IsL2 (H : Hp) (l : Addr) (rows : List (List Int)) : Prop := ∃ ls : List Addr, H l = some (.lst (ls.map V.ref)) ∧ Paired (fun la row => H la = some (.lst (row.map V.int))) ls rows
def spLcl : Sp := fun vs H Q _ => ∃ (ri : Addr) (wds : List WD) (many hues : Int), vs = [.ref ri] ∧ IsRid H ri many hues wds ∧ GoodR many hues wds ∧
  ∀ H' l, Same H H' → H l = none → IsL2 H' l (clsAll wds) → Q (.ref l) H'
structure TxtF (P : Program) (w : World) (K : PySem.W.Frag) (mg : Str → Option Value) (base : Heap) : Prop where
  m_range : mg "range" = none
  m_len : mg "len" = none
structure TxtG (P : Program) (w : World) (K : PySem.W.Frag) (mg : Str → Option Value) (base : Heap) : Prop extends TxtF P w K mg base where
  c__law_fillings : Cal P w K mg base 1 "_law_fillings" ["riddle"] spLfi
  c__law_broken : Cal P w K mg base 1 "_law_broken" ["riddle", "filling"] spLbr
section
variable {P : Program} {w : World} {K : PySem.W.Frag} {mg : Str → Option Value} {base : Heap}
set_option maxHeartbeats 16000000 in
theorem ok_lfi {f : Addr} {fd : FuncData} {k : Nat} (F : Fun K "_law_fillings" "_law_fillings" sLfi f fd) (T : TxtF P w K mg base) : FnOk P w K mg base CX0 (k + 1) f fd ["riddle"] spLfi := by
  refine F.ok scLfi (fun vs H Q E h => ?_) (fun cdv A outer s H vs Q E hr h => ?_)
  · obtain ⟨ri, wds, many, hues, rfl, _⟩ := h
    rfl
  · obtain ⟨ri, wds, many, hues, rfl, hrd, gr, q⟩ := h
    refine ⟨_, (pss_cons (ps_set (i := 1) scLfi.nd rfl (Or.inl rfl) (pe_lst (pa_cons (pe_tup pa_nil) pa_nil)))
  (pss_cons (ps_for PassesOwn.never rfl (pi_range1 (by rfl) T.m_range (pa_cons (pe_ix ix_tup (pv 0) pe_int (fun _ _ => rfl)) pa_nil)) (pg_name (i := 2) scLfi.nd rfl (Or.inl rfl))
  (pss_cons (ps_set (i := 3) scLfi.nd rfl (Or.inl rfl) (pe_lst pa_nil))
  (pss_cons (ps_for PassesOwn.never rfl (pi_list (pv 1)) (pg_name (i := 4) scLfi.nd rfl (Or.inr rfl))
  (pss_one (ps_expr (pe_bm PySem.F.plainAttrs_list PySem.F.slot_list_extend PySem.F.type_list_extend mt_extend (pv 3) (pa_cons (pe_lc (te := tOp (rCatA K) (tVar 4) (tTup (tCons (tVar 5) tNil))) (own := [("hue", 5)]) rfl scLfi.nd  (pi_range1 (by rfl) T.m_range (pa_cons (pe_ix ix_tup (pv 0) pe_int (fun _ _ => rfl)) pa_nil)) (blkOk_by (own := [("hue", 5)]) (N := nLfi) (sc := defScope sLfi) (by decide +kernel))
   (fun _ _ _ _ _ => (pg_name (i := 5) scLfi.nd rfl (Or.inl rfl))) (fun _ _ _ _ _ => pts_nil) (fun _ _ _ _ _ => (pe_op op_catA (pv 4) (pe_tup (pa_cons (pv 5) pa_nil))))) pa_nil)))))
  (pss_one (ps_set (i := 1) scLfi.nd rfl (Or.inl rfl) (pv 3))))))
  (pss_one (ps_ret (pv 1))))), ?_⟩
    obtain ⟨wt, was, h1, h2, h3⟩ := id hrd
    have m1 := gr.m1
    have m6 := gr.m6
    have hh2 := gr.h2
    have hh4 := gr.h4
    refine ⟨(by show 0 ≤ sizeLine; decide), fun t nt => ⟨(by show 1 ≤ sizeLine; decide), fun l nl => ?_⟩⟩
    have st := same_upd (o := .tup []) nt
    have sl := same_upd (o := .lst [.ref t]) nl
    refine ⟨.ref ri, rfl, ri, _, 0, _, rfl, rfl, .inl (.inl ((st.trans sl) _ _ h1)), rfl, many, rfl, by omega, by omega, for_range (lo := 0) (n := many.toNat) (fun i σ H3 => Same H H3 ∧ ∃ l, H l = none ∧ IsFills H3 l (fillL hues.toNat i) ∧ ∃ y2 y3 y4, σ = [some (.ref ri), some (.ref l), y2, y3, y4, none]) ⟨st.trans sl, l, st.free nl, ⟨[t], upd_same, .cons (sl _ _ upd_same) .nil⟩, none, none, none, rfl⟩ (fun i σ H3 hi p => ?_) (fun σ H3 p => ?_)⟩
    · obtain ⟨sm, l, nl, ⟨as, hl, pr⟩, y2, y3, y4, rfl⟩ := p
      have flen := fill_len hues.toNat i
      have p4 : hues.toNat ^ i ≤ 4096 := pow_le_4096 (by omega) (by omega)
      have alen := pairedLen pr
      refine ⟨(by show 0 ≤ sizeLine; decide), fun L nL => ?_⟩
      have nLH : H L = none := sm.free nL
      refine ⟨.ref l, rfl, l, rfl, ⟨_, .inl (.inl (same_upd nL _ _ hl))⟩, for_list (K := K) (a := l) (xs := as.map V.ref) (fun i2 σ H5 => Same H3 H5 ∧ IsFills H5 L (((fillL hues.toNat i).take i2).flatMap (longer hues.toNat)) ∧ ∃ y2 y4, σ = [some (.ref ri), some (.ref l), y2, some (.ref L), y4, none]) ⟨same_upd nL, ⟨[], upd_same, .nil⟩, _, _, rfl⟩ (fun i2 σ H5 _ pp => .inl (.inl (pp.1 _ _ hl))) (fun i2 x σ H5 hx pp => ?_) (fun σ H5 pp => ?_)⟩
      · rw [List.getElem?_map] at hx
        cases ea : as[i2]? with
        | none => rw [ea] at hx; cases hx
        | some a =>
          rw [ea] at hx
          cases hx
          obtain ⟨fl, hfl, isr⟩ := pairedGetL pr ea
          obtain ⟨s5, ⟨bs, hL, pb⟩, z2, z4, rfl⟩ := pp
          have blen := pairedLen pb
          refine ⟨.ref L, rfl, .inl ⟨rfl, _, .inl (.inl hL)⟩, .ref ri, rfl, ri, _, 1, _, rfl, rfl, .inl (.inl ((sm.trans s5) _ _ h1)), rfl, hues, rfl, by omega, by omega, fun D nD => lc_range (lo := 0) (n := hues.toNat) (fun j H6 => Same H5 H6 ∧ IsFills H6 D ((longer hues.toNat fl).take j)) ⟨same_upd nD, [], upd_same, .nil⟩ (fun j H6 hj pp => ?_) (fun H6 pp => ?_)⟩
          · obtain ⟨s6, cs, hb, pc⟩ := pp
            have clen := pairedLen pc
            have fin : ∀ (H7 : Hp) (r : Addr), Same H6 H7 → H7 r = some (.tup ((fl ++ [(j : Int)]).map V.int)) → ∃ acc, H7 D = some (.lst acc) ∧ acc.length < sizeLine ∧ (Same H5 (upd H7 D (.lst (acc ++ [.ref r]))) ∧ IsFills (upd H7 D (.lst (acc ++ [.ref r]))) D ((longer hues.toNat fl).take (j + 1))) := fun H7 r s7 hr7 => by
              have hD7 := s7 _ _ hb
              have tu : Tups H7 (upd H7 D (.lst (cs.map V.ref ++ [.ref r]))) := tups_upd fun xs z => by rw [hD7] at z; cases z
              refine ⟨_, hD7, ?_, fun b o e => ?_, cs ++ [r], ?_, ?_⟩
              · rw [List.length_map, clen, List.length_take, longer_len]
                exact small1000 (by omega)
              · rw [upd_ne (ne_of_none e nD)]
                exact s7 _ _ (s6 b o e)
              · rw [upd_same, List.map_append]
                rfl
              · rw [take_snoc (longer_at fl hj)]
                exact pairedSnoc (pairedMap (fun _ _ e => tu _ _ (s7 _ _ e)) pc) (tu _ _ hr7)
            refine ⟨rfl, yes_if ?_⟩
            refine ⟨.ref a, rfl, .int (0 + (j : Int)), rfl, (by show 1 ≤ sizeLine; decide), fun t nt => ?_⟩
            have sT := same_upd (o := .tup [.int (0 + (j : Int))]) nt
            have ha : upd H6 t (.tup [.int (0 + (j : Int))]) a = some (.tup (fl.map V.int)) := sT _ _ (s6 _ _ (s5 _ _ isr))
            have e0 : (0 : Int) + (j : Int) = j := Int.zero_add _
            have flen2 := (fill_good (List.mem_of_getElem? hfl)).1
            refine ⟨a, t, _, _, rfl, rfl, .inl (.inl ha), .inl (.inl upd_same), ?_, fun z => ?_, (fun _ z => nomatch z), fun z _ p np => ?_⟩
            · rw [List.length_map, flen2]
              exact Nat.le_of_lt (small1000 (by show i + 1 ≤ 1000; omega))
            · have z2 : fl = [] := List.map_eq_nil_iff.mp z
              refine fin _ t sT ?_
              rw [upd_same, z2, e0]
              rfl
            · have sp := same_upd (o := .tup (fl.map V.int ++ [.int (0 + (j : Int))])) np
              refine fin _ p (sT.trans sp) ?_
              rw [upd_same, e0, List.map_append]
              rfl
          · obtain ⟨s6, cs, hb, pc⟩ := pp
            rw [List.take_of_length_le (by rw [longer_len]; exact Nat.le_refl _)] at pc
            have hL6 := s6 _ _ hL
            have clen := pairedLen pc
            have tu : Tups H6 (upd H6 L (.lst (bs.map V.ref ++ cs.map V.ref))) := tups_upd fun xs z => by rw [hL6] at z; cases z
            refine ⟨L, D, _, _, rfl, rfl, hL6, hb, ?_, fun b o e => ?_, ⟨bs ++ cs, ?_, ?_⟩, _, _, rfl⟩
            · rw [List.length_map, List.length_map, blen, clen, flat_len, List.length_take, longer_len, flen]
              have : min i2 (hues.toNat ^ i) * hues.toNat ≤ 4096 * 4 := Nat.mul_le_mul (by omega) (by omega)
              exact Nat.le_trans (show _ ≤ 20000 by omega) (by decide)
            · rw [upd_ne (ne_of_none e nL)]
              exact s6 _ _ (s5 b o e)
            · rw [upd_same, List.map_append]
            · rw [take_snoc hfl, List.flatMap_append]
              refine pairedApp (pairedMap (fun _ _ e => tu _ _ (s6 _ _ e)) pb) ?_
              have e : [fl].flatMap (longer hues.toNat) = longer hues.toNat fl := by simp
              rw [e]
              exact pairedMap (fun _ _ e => tu _ _ e) pc
      · obtain ⟨s5, fs5, z2, z4, rfl⟩ := pp
        refine ⟨.ref L, rfl, sm.trans s5, L, nLH, ?_, _, _, _, rfl⟩
        rw [List.length_map, alen, List.take_length] at fs5
        exact fs5
    · obtain ⟨sm, l, nl, fs, y2, y3, y4, rfl⟩ := p
      exact ⟨.ref l, rfl, q H3 l sm nl fs⟩
theorem ok_lco {f : Addr} {fd : FuncData} {k : Nat} (F : Fun K "_law_counts" "_law_counts" sLco f fd) (T : TxtG P w K mg base) : FnOk P w K mg base CX0 (k + 2) f fd ["riddle"] spLco := by
  refine F.ok scLco (fun vs H Q E h => ?_) (fun cdv A outer s H vs Q E hr h => ?_)
  · obtain ⟨ri, wds, many, hues, rfl, _⟩ := h
    rfl
  · obtain ⟨ri, wds, many, hues, rfl, hrd, gr, q⟩ := h
    have hr1 : Room 1 (A.deeper (envOfC (Str.ofString "_law_counts") (defScope sLco) s.heap.objs.size f cdv)) := hr.mono (by omega)
    refine ⟨_, (pss_cons (ps_set (i := 1) scLco.nd rfl (Or.inl rfl) (pe_op op_rep (pe_lst (pa_cons pe_int pa_nil)) (pe_op op_add (pe_callB call_len_seq (by rfl) T.m_len (by decide +kernel) (pa_cons (pe_ix ix_tup (pv 0) pe_int (fun _ _ => rfl)) pa_nil)) pe_int)))
  (pss_cons (ps_for PassesOwn.never rfl (pi_list (pe_cal T.c__law_fillings hr1 (by rfl) (pa_cons (pv 0) pa_nil))) (pg_name (i := 2) scLco.nd rfl (Or.inl rfl))
  (pss_cons (ps_set (i := 3) scLco.nd rfl (Or.inl rfl) (pe_callB call_len_seq (by rfl) T.m_len (by decide +kernel) (pa_cons (pe_cal T.c__law_broken hr1 (by rfl) (pa_cons (pv 0) (pa_cons (pv 2) pa_nil))) pa_nil)))
  (pss_one (ps_asg (pe_op op_add (pe_ix ix_list (pv 1) (pv 3) (fun _ _ => rfl)) pe_int) (pg_sub (pv 1) (pv 3) set_list)))))
  (pss_one (ps_ret (pv 1))))), ?_⟩
    obtain ⟨wt, was, h1, h2, h3⟩ := id hrd
    have hl : was.length = wds.length := pairedLen h3
    have m1 := gr.m1
    have hh2 := gr.h2
    have e8 := gr.eight
    refine ⟨(by show 1 ≤ sizeLine; decide), fun l0 nl0 => ?_⟩
    have s0 := same_upd (o := .lst [.int 0]) nl0
    refine ⟨.ref ri, rfl, ri, _, 2, _, rfl, rfl, .inl (.inl (s0 _ _ h1)), rfl, wt, was.map V.ref, rfl, .inr (.inl (.inl (s0 _ _ h2))), _, _, rfl, rfl, ?_⟩
    have ew : ((was.map V.ref).length : Int) + 1 = ((wds.length + 1 : Nat) : Int) := by rw [List.length_map, hl]; omega
    refine ⟨l0, ((wds.length + 1 : Nat) : Int), _, rfl, congrArg V.int ew, upd_same, by omega, by omega, ?_, fun l nl => ?_⟩
    · rw [Int.toNat_natCast]
      exact Nat.le_of_lt (small1000 (by show 1 * (wds.length + 1) ≤ 1000; omega))
    rw [Int.toNat_natCast, rep_zero]
    have s1 := same_upd (o := .lst ((List.replicate (wds.length + 1) (0 : Int)).map V.int)) nl
    have nl2 : H l = none := s0.free nl
    refine ⟨.ref ri, rfl, ri, wds, many, hues, rfl, hrd.mono (tups_same (s0.trans s1)), gr, fun H2 lf s2 nlf fs => ?_⟩
    have s02 := (s0.trans s1).trans s2
    obtain ⟨as, hlf, pa⟩ := fs
    have hal := pairedLen pa
    have nll : lf ≠ l := fun z => by rw [z, upd_same] at nlf; cases nlf
    refine ⟨lf, rfl, ⟨_, .inl (.inl hlf)⟩, ?_⟩
    have hl2 : H2 l = some (.lst ((cnt0 wds).map V.int)) := s2 _ _ upd_same
    refine for_list (K := K) (a := lf) (xs := as.map V.ref) (fun i σ H3 => Same (wo H2 l) H3 ∧ H3 l = some (.lst ((cntL wds ((fillL hues.toNat many.toNat).take i)).map V.int)) ∧ ∃ y2 y3, σ = [some (.ref ri), some (.ref l), y2, y3]) ⟨fun b o e => wo_to e, hl2, none, none, rfl⟩ (fun i σ H3 _ p => .inl (.inl (p.1 _ _ (wo_of nll hlf)))) (fun i x σ H3 hx p => ?_) (fun σ H3 p => ?_)
    · obtain ⟨sm, hL, y2, y3, rfl⟩ := p
      rw [List.getElem?_map] at hx
      cases ea : as[i]? with
      | none => rw [ea] at hx; cases hx
      | some a =>
        rw [ea] at hx
        cases hx
        obtain ⟨fl, hfl, isr⟩ := pairedGetL pa ea
        have t3 : Tups H2 H3 := (wo_tups hl2).trans (tups_same sm)
        have gf := fill_goodF (by omega) (by omega) (List.mem_of_getElem? hfl)
        refine ⟨.ref ri, rfl, .ref a, rfl, ri, a, fl, wds, many, hues, rfl, (hrd.mono (tups_same s02)).mono t3, t3 _ _ isr, gf, gr, fun H4 lb s4 nlb hlb => ?_⟩
        have hL4 := s4 _ _ hL
        generalize hcl : cntL wds ((fillL hues.toNat many.toNat).take i) = cl at hL hL4
        have bl := broL_len fl wds wds.length
        have cl2 : cl.length = wds.length + 1 := by rw [← hcl]; exact cnt_len _ _
        have bk : (broL fl wds wds.length).length < cl.length := by omega
        obtain ⟨c, hc⟩ : ∃ c, cl[(broL fl wds wds.length).length]? = some c := ⟨_, List.getElem?_eq_getElem bk⟩
        have ei : ((((broL fl wds wds.length).map V.int).length : Nat) : Int) = ((broL fl wds wds.length).length : Int) := by rw [List.length_map]
        refine ⟨lb, _, rfl, .inl (.inl (.inl hlb)), ?_⟩
        rw [ei]
        refine ⟨.ref l, rfl, .int _, rfl, l, _, _, .int c, rfl, rfl, .inl (.inl hL4), atI_nat (by rw [List.getElem?_map, hc]; rfl), c, 1, rfl, rfl, .ref l, rfl, .int _, rfl, l, _, _, (broL fl wds wds.length).length, rfl, rfl, hL4, ?_, ?_⟩
        · rw [List.length_map]
          exact ix_nat bk
        · refine ⟨fun b o e => ?_, ?_, _, _, rfl⟩
          · rw [upd_ne (ne_of_none e wo_self)]
            exact s4 _ _ (sm b o e)
          · rw [upd_same, take_snoc hfl, cnt_snoc, hcl, bump_eq hc, List.map_set]
    · obtain ⟨sm, hL, y2, y3, rfl⟩ := p
      rw [List.length_map, hal, List.take_length] at hL
      exact ⟨.ref l, rfl, q H3 l (fun b o e => sm b o (wo_of (ne_of_none e nl2) (s02 _ _ e))) nl2 hL⟩
end
end Rd

set_option Elab.async false
set_option linter.all false
set_option maxRecDepth 100000
set_option maxHeartbeats 4000000
namespace Rd
open PySem PySem.Spec PyProof.Rows L2 Dt
def pick (a b : List Int) : List Int := b.filter fun p => decide (p ∈ a)
def picks (wds : List WD) (a : WD) (i : Nat) : List (List Int) := (wds.take i).map fun b => pick a.1 b.1
theorem pick_snoc {a b : List Int} {m : Nat} {p : Int} (h : b[m]? = some p) : pick a (b.take (m + 1)) = if p ∈ a then pick a (b.take m) ++ [p] else pick a (b.take m) := by
  unfold pick
  rw [take_snoc h, List.filter_append]
  by_cases e : p ∈ a
  · simp [e]
  · simp [e]
theorem pick_nil {a b : WD} : (pick a.1 b.1 = []) ↔ clB a b = false := by
  rw [clB_comm]
  unfold pick clB
  rw [List.filter_eq_nil_iff, Bool.eq_false_iff]
  simp only [ne_eq, List.any_eq_true, not_exists, not_and]
theorem pick_mem {a b : List Int} {z : Int} (h : z ∈ pick a b) : z ∈ b := (List.mem_filter.mp h).1
theorem pick_len (a b : List Int) : (pick a b).length ≤ b.length := List.length_filter_le _ _
theorem lists_upd {H : Hp} {D : Addr} {o : HO} : ∀ {l : List Addr} {m : List (List Int)}, Paired (fun la row => H la = some (.lst (row.map V.int))) l m → D ∉ l → Paired (fun la row => upd H D o la = some (.lst (row.map V.int))) l m
  | _, _, .nil, _ => .nil
  | _, _, .cons h t, n => .cons (by rw [upd_ne (fun z => n (by rw [z]; exact List.mem_cons_self))]; exact h) (lists_upd t fun z => n (List.mem_cons_of_mem _ z))
theorem lists_fresh {H : Hp} {D : Addr} {l : List Addr} {m : List (List Int)} (p : Paired (fun la row => H la = some (.lst (row.map V.int))) l m) (n : H D = none) : D ∉ l := fun z => by
  obtain ⟨j, hj⟩ := List.getElem?_of_mem z
  obtain ⟨row, _, e⟩ := pairedGetL p hj
  rw [n] at e
  cases e
section
variable {P : Program} {w : World} {K : PySem.W.Frag} {mg : Str → Option Value} {base : Heap}
set_option maxHeartbeats 16000000 in
theorem ok_lcl {f : Addr} {fd : FuncData} {k : Nat} (F : Fun K "_law_clashing" "_law_clashing" sLcl f fd) (T : TxtF P w K mg base) : FnOk P w K mg base CX0 (k + 1) f fd ["riddle"] spLcl := by
  refine F.ok scLcl (fun vs H Q E h => ?_) (fun cdv A outer s H vs Q E hr h => ?_)
  · obtain ⟨ri, wds, many, hues, rfl, _⟩ := h
    rfl
  · obtain ⟨ri, wds, many, hues, rfl, hrd, gr, q⟩ := h
    refine ⟨_, (pss_cons (ps_set (i := 1) scLcl.nd rfl (Or.inl rfl) (pe_lst pa_nil))
  (pss_cons (ps_for PassesOwn.never rfl (pi_tup (pe_ix ix_tup (pv 0) pe_int (fun _ _ => rfl))) (pg_tup rfl (pgs_cons (pg_name (i := 2) scLcl.nd rfl (Or.inr rfl)) (pgs_cons (pg_name (i := 3) scLcl.nd rfl (Or.inl rfl)) pgs_nil)))
  (pss_cons (ps_set (i := 4) scLcl.nd rfl (Or.inr rfl) (pe_lc (g := gTup K 2 (gCons (gName 5) (gCons (gName 6) gNil))) (te := tLc (iTup K (tVar 5)) (gName 7) (tTest (tOp (rInT K) (tVar 7) (tVar 2))) (tVar 7) [7]) (own := [("others", 5), ("more", 6)]) rfl scLcl.nd  (pi_tup (pe_ix ix_tup (pv 0) pe_int (fun _ _ => rfl))) (blkOk_by (own := [("others", 5), ("more", 6)]) (N := nLcl) (sc := defScope sLcl) (by decide +kernel))
   (fun _ _ _ _ _ => (pg_tup rfl (pgs_cons (pg_name (i := 5) scLcl.nd rfl (Or.inl rfl)) (pgs_cons (pg_name (i := 6) scLcl.nd rfl (Or.inl rfl)) pgs_nil)))) (fun _ _ _ _ _ => pts_nil) (fun _ _ _ _ _ => (pe_lc (own := [("one", 7)]) rfl scLcl.nd  (pi_tup (pv 5)) (blkOk_by (own := [("one", 7)]) (N := nLcl) (sc := { kind := .function, names := [(".0", .local), ("others", .local), ("more", .local), ("places", .cell)], isGenerator := false, isCoroutine := false }) (by decide +kernel))
   (fun _ _ _ _ _ => (pg_name (i := 7) scLcl.nd rfl (Or.inl rfl))) (fun _ _ _ _ _ => pts_one (pt_cmpR (Dt.op_inT (units65 hr)) (pv 7) (pv 2) (by rfl))) (fun _ _ _ _ _ => (pv 7))))))
  (pss_one (ps_expr (pe_bm PySem.F.plainAttrs_list PySem.F.slot_list_append PySem.F.type_list_append mt_append (pv 1) (pa_cons (pe_lc (tt := tTest (tOp (rNeD K) (tOp (rIxL K) (tVar 4) (tVar 8)) (tLst tNil))) (own := [("k", 8)]) rfl scLcl.nd  (pi_range1 (by rfl) T.m_range (pa_cons (pe_callB call_len_seq (by rfl) T.m_len (by decide +kernel) (pa_cons (pv 4) pa_nil)) pa_nil)) (blkOk_by (own := [("k", 8)]) (N := nLcl) (sc := defScope sLcl) (by decide +kernel))
   (fun _ _ _ _ _ => (pg_name (i := 8) scLcl.nd rfl (Or.inl rfl))) (fun _ _ _ _ _ => pts_one (pt_cmpR (op_neD hr.units) (pe_ix ix_list (pv 4) (pv 8) (fun _ _ => rfl)) (pe_lst pa_nil) (nomark _))) (fun _ _ _ _ _ => (pv 8))) pa_nil))))))
  (pss_one (ps_ret (pv 1))))), ?_⟩
    obtain ⟨wt, was, h1, h2, h3⟩ := id hrd
    have hl : was.length = wds.length := pairedLen h3
    have e8 := gr.eight
    have m6 := gr.m6
    refine ⟨(by show 0 ≤ sizeLine; decide), fun L nL => ?_⟩
    have sL := same_upd (o := .lst []) nL
    refine ⟨.ref ri, rfl, ri, _, 2, _, rfl, rfl, .inl (.inl (sL _ _ h1)), rfl, wt, rfl, ⟨_, .inl (.inl (sL _ _ h2))⟩, ?_⟩
    refine for_tup (K := K) (a := wt) (xs := was.map V.ref) (fun i σ H3 => Same H H3 ∧ (∃ ls : List Addr, H3 L = some (.lst (ls.map V.ref)) ∧ Paired (fun la row => H3 la = some (.lst (row.map V.int))) ls ((wds.take i).map fun wd => clsL wds wd wds.length) ∧ L ∉ ls) ∧ ∃ y2 y3 y4, σ = [some (.ref ri), some (.ref L), y2, y3, y4, none, none, none, none]) ⟨sL, ⟨[], upd_same, .nil, List.not_mem_nil⟩, none, none, none, rfl⟩ (fun i σ H3 _ p => .inl (.inl (p.1 _ _ h2))) (fun i x σ H3 hx p => ?_) (fun σ H3 p => ?_)
    · obtain ⟨sm, ⟨ls, hL, pl, nLl⟩, y2, y3, y4, rfl⟩ := p
      rw [List.getElem?_map] at hx
      cases ew : was[i]? with
      | none => rw [ew] at hx; cases hx
      | some wa =>
        rw [ew] at hx
        cases hx
        obtain ⟨wd, hwd, isw⟩ := pairedGetL h3 ew
        have gw := gr.each wd (List.mem_of_getElem? hwd)
        have hi : i < was.length := (List.getElem?_eq_some_iff.mp ew).1
        obtain ⟨pa, ra, rs, w1, w2, w3, w4⟩ := isw
        have lsl := pairedLen pl
        refine ⟨wa, _, rfl, .inl (.inl (sm _ _ w1)), rfl, .ref pa, [.ref ra], rfl, .ref ra, [], rfl, rfl, ?_⟩
        refine ⟨.ref ri, rfl, ri, _, 2, _, rfl, rfl, .inl (.inl (sm _ _ h1)), rfl, wt, rfl, ⟨_, .inl (.inl (sm _ _ h2))⟩, fun D nD => ?_⟩
        refine lc_tup (K := K) (a := wt) (xs := was.map V.ref) (fun j H5 => Same H3 H5 ∧ ∃ ms : List Addr, H5 D = some (.lst (ms.map V.ref)) ∧ Paired (fun la row => H5 la = some (.lst (row.map V.int))) ms (picks wds wd j) ∧ D ∉ ms) ⟨same_upd nD, [], upd_same, .nil, List.not_mem_nil⟩ (fun j H5 _ pp => .inl (.inl ((sm.trans pp.1) _ _ h2))) (fun j x H5 hx pp => ?_) (fun H5 pp => ?_)
        · obtain ⟨s5, ms, hD, pm, nDm⟩ := pp
          rw [List.getElem?_map] at hx
          cases eb : was[j]? with
          | none => rw [eb] at hx; cases hx
          | some wb =>
            rw [eb] at hx
            cases hx
            obtain ⟨wd2, hwd2, isw2⟩ := pairedGetL h3 eb
            have gw2 := gr.each wd2 (List.mem_of_getElem? hwd2)
            have hj : j < was.length := (List.getElem?_eq_some_iff.mp eb).1
            obtain ⟨pb, rb, rs2, b1, b2, b3, b4⟩ := isw2
            have s05 := sm.trans s5
            refine ⟨wb, _, rfl, .inl (.inl (s05 _ _ b1)), rfl, .ref pb, [.ref rb], rfl, .ref rb, [], rfl, rfl, rfl, yes_if ?_⟩
            refine ⟨.ref pb, rfl, pb, rfl, ⟨_, .inl (.inl (s05 _ _ b2))⟩, fun D2 nD2 => ?_⟩
            refine lc_tup (K := K) (a := pb) (xs := wd2.1.map V.int) (fun m H6 => Same H5 H6 ∧ H6 D2 = some (.lst ((pick wd.1 (wd2.1.take m)).map V.int))) ⟨same_upd nD2, upd_same⟩ (fun m H6 _ pp => .inl (.inl ((s05.trans pp.1) _ _ b2))) (fun m x H6 hx pp => ?_) (fun H6 pp => ?_)
            · obtain ⟨s6, hD2⟩ := pp
              rw [List.getElem?_map] at hx
              cases ep : wd2.1[m]? with
              | none => rw [ep] at hx; cases hx
              | some p =>
                rw [ep] at hx
                cases hx
                have hp := gw2.pl p (List.mem_of_getElem? ep)
                refine ⟨rfl, .int p, rfl, .ref pa, rfl, .int p, wd.1.map PyData.int, .int p, .tup (.inl (.inl ((s05.trans s6) _ _ w2))) (dpInts _), (fine_int hp.1 (by omega)).shaped (by decide), ?_, _, rfl, ?_⟩
                · exact (fine_row (r := wd.1) (fun z hz => by have := gw.pl z hz; omega) (by have := gw.three; omega)).shaped (by decide)
                rw [Gv.any_ints]
                have sn := pick_snoc (a := wd.1) ep
                refine ite2 (fun e => ?_) (fun e => ?_)
                · refine ⟨.int p, rfl, _, hD2, ?_, fun b o e2 => ?_, ?_⟩
                  · rw [List.length_map]
                    have := pick_len wd.1 (wd2.1.take m)
                    rw [List.length_take] at this
                    have := gw2.three
                    exact small1000 (by omega)
                  · rw [upd_ne (ne_of_none e2 nD2)]
                    exact s6 b o e2
                  · rw [upd_same, sn, if_pos (by simpa using e), List.map_append]
                    rfl
                · refine ⟨s6, ?_⟩
                  rw [sn, if_neg (by simpa using e)]
                  exact hD2
            · obtain ⟨s6, hD2⟩ := pp
              rw [List.length_map, List.take_length] at hD2
              have hD6 := s6 _ _ hD
              have nDD : D2 ≠ D := fun z => by rw [z, hD] at nD2; cases nD2
              have n2 := lists_fresh pm nD2
              have msl := pairedLen pm
              refine ⟨_, hD6, ?_, fun b o e2 => ?_, ms ++ [D2], ?_, ?_, ?_⟩
              · rw [List.length_map, msl, picks, List.length_map, List.length_take]
                exact small1000 (by omega)
              · rw [upd_ne (ne_of_none e2 nD)]
                exact s6 _ _ (s5 b o e2)
              · rw [upd_same, List.map_append]
                rfl
              · rw [picks, take_snoc hwd2, List.map_append]
                refine (lists_upd (pairedMap (fun _ _ e => s6 _ _ e) pm) nDm).snoc ?_
                rw [upd_ne nDD]
                exact hD2
              · exact fun z => (List.mem_append.mp z).elim nDm fun z => nDD (List.mem_singleton.mp z).symm
        · obtain ⟨s5, ms, hD, pm, nDm⟩ := pp
          rw [List.length_map, hl, picks, List.take_length] at pm
          have hL5 := s5 _ _ hL
          have msl := pairedLen pm
          rw [List.length_map] at msl
          refine ⟨.ref L, rfl, .inl ⟨rfl, _, .inl (.inl hL5)⟩, .ref D, rfl, D, _, rfl, .inl (.inl (.inl hD)), _, rfl, by omega, ?_, fun D3 nD3 => ?_⟩
          · rw [List.length_map]
            omega
          rw [Int.toNat_natCast, List.length_map]
          refine lc_range (lo := 0) (n := ms.length) (fun m H7 => Same H5 H7 ∧ H7 D3 = some (.lst ((clsL wds wd m).map V.int))) ⟨same_upd nD3, upd_same⟩ (fun m H7 hm pp => ?_) (fun H7 pp => ?_)
          · obtain ⟨s7, hD3⟩ := pp
            obtain ⟨wd2, hwd2⟩ : ∃ wd2, wds[m]? = some wd2 := ⟨_, List.getElem?_eq_getElem (by omega)⟩
            have gw2 := gr.each wd2 (List.mem_of_getElem? hwd2)
            obtain ⟨ma, hma, hml⟩ := pairedGet pm (i := m) (b := pick wd.1 wd2.1) (by rw [List.getElem?_map, hwd2]; rfl)
            have ez : (0 : Int) + (m : Int) = m := Int.zero_add _
            refine ⟨rfl, .ref D, rfl, .int (0 + (m : Int)), rfl, D, ms.map V.ref, _, .ref ma, rfl, rfl, .inl (.inl (s7 _ _ hD)), ?_, (by show 0 ≤ sizeLine; decide), fun le nle => ?_⟩
            · rw [ez]
              exact atI_nat (by rw [List.getElem?_map, hma]; rfl)
            have se := same_upd (o := .lst []) nle
            refine ⟨.list ((pick wd.1 wd2.1).map .int), .list [], .lst (.inl (.inl ((s7.trans se) _ _ hml))) (dpInts _), .lst (.inl (.inl upd_same)) .nil, ?_, by decide +kernel, _, rfl, ?_⟩
            · exact (fine_ints (fun z hz => by have := gw2.pl z (pick_mem hz); omega)).shaped (by decide)
            have ec := clAt_of (a := wd) hwd2
            have s8 := s7.trans se
            have hD8 := se _ _ hD3
            by_cases hn : pick wd.1 wd2.1 = []
            · rw [hn, List.map_nil, eqv_list_nn]
              refine iteF ⟨s8, ?_⟩
              rw [clsL_no (ec.trans (pick_nil.mp hn))]
              exact hD8
            · have ec2 : clAt wds wd m = true := by
                rw [ec]
                cases e : clB wd wd2 with
                | true => rfl
                | false => exact absurd (pick_nil.mpr e) hn
              cases hpk : pick wd.1 wd2.1 with
              | nil => exact absurd hpk hn
              | cons z zs =>
                rw [show PyData.eqv (.list ((z :: zs).map PyData.int)) (.list []) = false from eqv_list_nil _ _]
                refine iteT ?_
                refine ⟨.int (0 + (m : Int)), rfl, _, hD8, ?_, fun b o e2 => ?_, ?_⟩
                · rw [List.length_map]
                  have := clsL_len wds wd m
                  exact small1000 (by omega)
                · rw [upd_ne (ne_of_none e2 nD3)]
                  exact s8 b o e2
                · rw [upd_same, clsL_yes ec2, List.map_append, ez]
                  rfl
          · obtain ⟨s7, hD3⟩ := pp
            rw [msl] at hD3
            have hL7 := s7 _ _ hL5
            have s57 := s5.trans s7
            have nDL : D3 ≠ L := fun z => by rw [z, hL5] at nD3; cases nD3
            refine ⟨L, _, _, rfl, rfl, hL7, ?_, fun b o e2 => ?_, ⟨ls ++ [D3], ?_, ?_, ?_⟩, _, _, _, rfl⟩
            · rw [List.length_map, lsl, List.length_map, List.length_take]
              exact small1000 (by omega)
            · rw [upd_ne (ne_of_none e2 nL)]
              exact s57 _ _ (sm b o e2)
            · rw [upd_same, List.map_append]
              rfl
            · rw [take_snoc hwd, List.map_append]
              refine (lists_upd (pairedMap (fun _ _ e => s57 _ _ e) pl) nLl).snoc ?_
              rw [upd_ne nDL]
              exact hD3
            · exact fun z => (List.mem_append.mp z).elim nLl fun z => nDL (List.mem_singleton.mp z).symm
    · obtain ⟨sm, ⟨ls, hL, pl, nLl⟩, y2, y3, y4, rfl⟩ := p
      rw [List.length_map, hl, List.take_length] at pl
      exact ⟨.ref L, rfl, q H3 L sm nL ⟨ls, hL, pl⟩⟩
end
end Rd

set_option Elab.async false
set_option linter.all false
set_option maxRecDepth 100000
set_option maxHeartbeats 4000000
namespace Rd
open PySem PySem.Spec PyProof.Rows L2 Dt
abbrev sLaw : Stmt := topS 18
abbrev nLaw : List Str := ["script", "well", "turn", "riddle", "kept", "found", "told", "k"]
theorem scLaw : FnScope nLaw ["script"] (defScope sLaw) := ⟨rfl, rfl, rfl, by decide +kernel, rfl, by decide +kernel, by decide +kernel⟩
theorem Drawn.tab {H H' : Hp} {wl cl P : Addr} (w : Well H wl cl) (a : Drawn wl cl H H') (t : GxR.TabG H P) : GxR.TabG H' P := by
  obtain ⟨ps, hp, ht⟩ := t
  obtain ⟨cs, x, c, h1, h2, hc⟩ := w
  exact ⟨ps, a.1 P _ (fun z => by rw [z, h1] at hp; cases hp) (fun z => by rw [z, h2] at hp; cases hp) hp, ht⟩
theorem Fr1.well {H H' : Hp} {wl cl P : Addr} (t : GxR.TabG H P) (f : Fr1 P H H') (w : Well H wl cl) : Well H' wl cl := by
  obtain ⟨ps, hp, ht⟩ := t
  obtain ⟨cs, x, c, h1, h2, hc⟩ := w
  exact ⟨cs, x, c, f.1 _ _ (fun z => by rw [z, hp] at h1; cases h1) h1, f.1 _ _ (fun z => by rw [z, hp] at h2; cases h2) h2, hc⟩
theorem tab_same {H H' : Hp} {P : Addr} (t : GxR.TabG H P) (s : Same H H') : GxR.TabG H' P := (Fr1.of t s).2
theorem tab_put {H : Hp} {P l : Addr} {xs : List V} {o : HO} (t : GxR.TabG H P) (h : H l = some (.lst xs)) : GxR.TabG (upd H l o) P := by
  obtain ⟨ps, e, q⟩ := t
  exact ⟨ps, by rw [upd_ne (fun z => by rw [z, h] at e; cases e)]; exact e, q⟩
theorem put_tups {H : Hp} {l : Addr} {xs : List V} {o : HO} (h : H l = some (.lst xs)) : Tups H (upd H l o) := tups_upd fun ys z => by rw [h] at z; cases z
theorem cut_from (xs : List V) (k : Nat) : cutV xs (some (k : Int)) none = xs.drop k := by
  unfold cutV
  have e : HT.sIx xs.length xs.length none = xs.length := rfl
  have e2 : HT.sIx xs.length 0 (some (k : Int)) = min k xs.length := by
    unfold HT.sIx
    simp
    omega
  rw [e, e2, List.take_of_length_le (by rw [List.length_drop]; omega)]
  by_cases h : k ≤ xs.length
  · rw [Nat.min_eq_left h]
  · rw [Nat.min_eq_right (by omega), List.drop_length, List.drop_of_length_le (by omega)]
theorem dpLists {K : PySem.W.Frag} {H : Hp} : ∀ {ls : List Addr} {rows : List (List Int)}, Paired (fun la row => H la = some (.lst (row.map V.int))) ls rows → DpAll K H (ls.map V.ref) (rows.map fun l => .list (l.map .int))
  | _, _, .nil => .nil
  | _, _, .cons h t => .cons (.lst (.inl (.inl h)) (dpInts _)) (dpLists t)
theorem paired_drop {α β : Type} {F : α → β → Prop} : ∀ (n : Nat) {l : List α} {m : List β}, Paired F l m → Paired F (l.drop n) (m.drop n)
  | 0, _, _, h => h
  | n + 1, _, _, .nil => .nil
  | n + 1, _, _, .cons _ t => paired_drop n t
theorem fine_cnt {many hues : Int} {wds : List WD} (g : GoodR many hues wds) : Fine (.list ((cntL wds (fillL hues.toNat many.toNat)).map .int)) 2 150 := by
  have m6 := g.m6
  have h4 := g.h4
  have e8 := g.eight
  have p := pow_le_4096 (h := hues.toNat) (n := many.toNat) (by omega) (by omega)
  refine (fine_ints fun z hz => ?_).mono (Nat.le_refl _) (by rw [cnt_len]; omega)
  have := cnt_mem wds _ z hz
  rw [fill_len] at this
  omega
theorem fine_cls {many hues : Int} {wds : List WD} (g : GoodR many hues wds) (k : Nat) : Fine (listsD ((clsAll wds).drop k)) 3 100000 := by
  have e8 := g.eight
  have hl : (clsAll wds).length = wds.length := by simp [clsAll]
  refine fine_lists (by rw [List.length_drop]; omega) fun l hl => ?_
  obtain ⟨wd, _, rfl⟩ := List.mem_map.mp (List.mem_of_mem_drop hl)
  refine ⟨?_, fun z hz => ?_⟩
  · have := clsL_len wds wd wds.length
    omega
  · have := clsL_mem hz
    omega
structure TxtL (P : Program) (w : World) (K : PySem.W.Frag) (mg : Str → Option Value) (base : Heap) (Pt Pc : Addr) : Prop where
  m_range : mg "range" = none
  m_repr : mg "repr" = none
  m_len : mg "len" = none
  c__law_well : Cal P w K mg base 1 "_law_well" ["script"] (spWell K)
  c__law_riddle : Cal P w K mg base 3 "_law_riddle" ["well", "most_places", "most_wishes"] spRid
  c__law_counts : Cal P w K mg base 2 "_law_counts" ["riddle"] spLco
  c__law_clashing : Cal P w K mg base 1 "_law_clashing" ["riddle"] spLcl
  c_counts : Cal P w K mg base 4 "counts" ["riddle"] (spCnt Pt)
  c_clashing : Cal P w K mg base 2 "clashing" ["riddle"] (spCls Pc)
section
variable {P : Program} {w : World} {K : PySem.W.Frag} {mg : Str → Option Value} {base : Heap}
set_option maxHeartbeats 16000000 in
theorem body_law {fa a Pt Pc : Addr} {s : Shared} {H : Hp} {cdv : Value} {ns : List Int} (T : TxtL P w K mg base Pt Pc) (hl : ns.length ≤ 63) (hb : ∀ z ∈ ns, Builtin.Int.intBits z ≤ 1048576) (hT : H Pt = some (.tbl #[])) (hC : H Pc = some (.tbl #[])) (hS : SqL K H a (ns.map V.int))
    (hr : Room 4 (callerA.deeper (envOfC (Str.ofString "law") (defScope sLaw) s.heap.objs.size fa cdv))) :
    ∃ t, PSs (cxOf CX0 P w K mg base nLaw (Str.ofString "law") (defScope sLaw) fa cdv callerA [] s H (fun _ _ _ => False)).nox (defBody sLaw) t ∧ t { nx := fun _ _ => False, rt := fun v _ => v = .bl true } (start nLaw [.ref a]) H := by
  have hr4 := hr
  have hr3 : Room 3 (callerA.deeper (envOfC (Str.ofString "law") (defScope sLaw) s.heap.objs.size fa cdv)) := hr.mono (by omega)
  have hr2 : Room 2 (callerA.deeper (envOfC (Str.ofString "law") (defScope sLaw) s.heap.objs.size fa cdv)) := hr.mono (by omega)
  have hr1 : Room 1 (callerA.deeper (envOfC (Str.ofString "law") (defScope sLaw) s.heap.objs.size fa cdv)) := hr.mono (by omega)
  have hg : (callerA.deeper (envOfC (Str.ofString "law") (defScope sLaw) s.heap.objs.size fa cdv)).guards = some [] := rfl
  refine ⟨_, (pss_cons (ps_set (i := 1) scLaw.nd rfl (Or.inl rfl) (pe_cal T.c__law_well hr1 (by rfl) (pa_cons (pv 0) pa_nil)))
  (pss_cons (ps_for PassesOwn.never rfl (pi_range1 (by rfl) T.m_range (pa_cons pe_int pa_nil)) (pg_name (i := 2) scLaw.nd rfl (Or.inl rfl))
  (pss_cons (ps_set (i := 3) scLaw.nd rfl (Or.inl rfl) (pe_cal T.c__law_riddle hr3 (by rfl) (pa_cons (pv 1) (pa_cons pe_int (pa_cons pe_int pa_nil)))))
  (pss_cons (ps_set (i := 4) scLaw.nd rfl (Or.inl rfl) (pe_callB (Lg.call_repr hg hr.units) (by rfl) T.m_repr (by decide +kernel) (pa_cons (pv 3) pa_nil)))
  (pss_cons (ps_set (i := 5) scLaw.nd rfl (Or.inl rfl) (pe_cal T.c_counts hr4 (by rfl) (pa_cons (pv 3) pa_nil)))
  (pss_cons (ps_if (pt_cmpR op_ne (pe_callB (Lg.call_repr hg hr.units) (by rfl) T.m_repr (by decide +kernel) (pa_cons (pv 5) pa_nil)) (pe_callB (Lg.call_repr hg hr.units) (by rfl) T.m_repr (by decide +kernel) (pa_cons (pe_cal T.c__law_counts hr2 (by rfl) (pa_cons (pv 3) pa_nil)) pa_nil)) (nomark _))
  (pss_one (ps_ret pe_bl)) pss_nil)
  (pss_cons (ps_expr (pe_bm PySem.F.plainAttrs_list PySem.F.slot_list_append PySem.F.type_list_append mt_append (pv 5) (pa_cons pe_int pa_nil)))
  (pss_cons (ps_set (i := 6) scLaw.nd rfl (Or.inl rfl) (pe_cal T.c_clashing hr2 (by rfl) (pa_cons (pv 3) pa_nil)))
  (pss_cons (ps_if (pt_cmpR op_ne (pe_callB (Lg.call_repr hg hr.units) (by rfl) T.m_repr (by decide +kernel) (pa_cons (pv 6) pa_nil)) (pe_callB (Lg.call_repr hg hr.units) (by rfl) T.m_repr (by decide +kernel) (pa_cons (pe_cal T.c__law_clashing hr1 (by rfl) (pa_cons (pv 3) pa_nil)) pa_nil)) (nomark _))
  (pss_one (ps_ret pe_bl)) pss_nil)
  (pss_cons (ps_for PassesOwn.never rfl (pi_range1 (by rfl) T.m_range (pa_cons (pe_callB call_len_seq (by rfl) T.m_len (by decide +kernel) (pa_cons (pv 6) pa_nil)) pa_nil)) (pg_name (i := 7) scLaw.nd rfl (Or.inl rfl))
  (pss_cons (ps_expr (pe_bm PySem.F.plainAttrs_list PySem.F.slot_list_append PySem.F.type_list_append mt_append (pe_ix ix_list (pv 6) (pv 7) (fun _ _ => rfl)) (pa_cons pe_int pa_nil)))
  (pss_one (ps_if (pt_cmpR op_ne (pe_callB (Lg.call_repr hg hr.units) (by rfl) T.m_repr (by decide +kernel) (pa_cons (pe_slice sl_list (pv 6) (po_some (pe_op op_add (pv 7) pe_int)) po_none) pa_nil)) (pe_callB (Lg.call_repr hg hr.units) (by rfl) T.m_repr (by decide +kernel) (pa_cons (pe_slice sl_list (pe_cal T.c__law_clashing hr1 (by rfl) (pa_cons (pv 3) pa_nil)) (po_some (pe_op op_add (pv 7) pe_int)) po_none) pa_nil)) (nomark _))
  (pss_one (ps_ret pe_bl)) pss_nil))))
  (pss_cons (ps_if (PW.pt (pw_or (pt_cmpR op_ne (pe_callB (Lg.call_repr hg hr.units) (by rfl) T.m_repr (by decide +kernel) (pa_cons (pe_cal T.c_clashing hr2 (by rfl) (pa_cons (pv 3) pa_nil)) pa_nil)) (pe_callB (Lg.call_repr hg hr.units) (by rfl) T.m_repr (by decide +kernel) (pa_cons (pe_cal T.c__law_clashing hr1 (by rfl) (pa_cons (pv 3) pa_nil)) pa_nil)) (nomark _)) (pw_or1 (pt_cmpR op_ne (pe_callB (Lg.call_repr hg hr.units) (by rfl) T.m_repr (by decide +kernel) (pa_cons (pe_cal T.c_counts hr4 (by rfl) (pa_cons (pv 3) pa_nil)) pa_nil)) (pe_callB (Lg.call_repr hg hr.units) (by rfl) T.m_repr (by decide +kernel) (pa_cons (pe_cal T.c__law_counts hr2 (by rfl) (pa_cons (pv 3) pa_nil)) pa_nil)) (nomark _)))))
  (pss_one (ps_ret pe_bl)) pss_nil)
  (pss_one (ps_if (pt_cmpR op_ne (pe_callB (Lg.call_repr hg hr.units) (by rfl) T.m_repr (by decide +kernel) (pa_cons (pv 3) pa_nil)) (pv 4) (nomark _))
  (pss_one (ps_ret pe_bl)) pss_nil))))))))))))
  (pss_one (ps_ret pe_bl)))), ?_⟩
  refine ⟨.ref a, rfl, a, ns, rfl, hS, hl, hb, fun H1 wl cl sm _ _ hW => ?_⟩
  have t1 : GxR.TabG H1 Pt := ⟨#[], sm _ _ hT, trivial⟩
  have c1 : GxR.TabG H1 Pc := ⟨#[], sm _ _ hC, trivial⟩
  refine ⟨2, rfl, by decide, by decide, for_range (lo := 0) (n := 2) (fun i σ H2 => Well H2 wl cl ∧ GxR.TabG H2 Pt ∧ GxR.TabG H2 Pc ∧ ∃ y2 y3 y4 y5 y6 y7, σ = [some (.ref a), some (.ref wl), y2, y3, y4, y5, y6, y7]) ⟨hW, t1, c1, none, none, none, none, none, none, rfl⟩ (fun i σ H2 hi p => ?_) (fun σ H2 p => ?_)⟩
  · obtain ⟨hW2, t2, c2, y2, y3, y4, y5, y6, y7, rfl⟩ := p
    refine ⟨.ref wl, rfl, wl, cl, 8, rfl, hW2, by decide, by decide, fun H3 ri many hues wds D3 isr gr => ?_⟩
    have hW3 := D3.2
    have t3 := D3.tab hW2 t2
    have c3 := D3.tab hW2 c2
    have fr := fine_rid gr
    have fc := fine_cnt gr
    have fl := fine_cls gr
    have clen : (clsAll wds).length = wds.length := by simp [clsAll]
    have e8 := gr.eight
    -- kept
    refine ⟨.ref ri, rfl, ri, _, rfl, dpRid isr, fr.sho, fr.noD, Nat.lt_of_le_of_lt fr.dep (by decide), fr.shows (by decide) (by decide), ?_⟩
    -- found
    refine ⟨.ref ri, rfl, ri, wds, many, hues, rfl, isr, gr, t3, fun H4 lc f4 nlc hlc => ?_⟩
    have is4 := isr.mono (f4.tups t3)
    have hW4 := f4.well t3 hW3
    have t4 := f4.2
    have c4 := f4.tab c3
    refine ⟨.ref lc, rfl, lc, _, rfl, .lst (.inl (.inl hlc)) (dpInts _), fc.sho, fc.noD, Nat.lt_of_le_of_lt fc.dep (by decide), fc.shows (by decide) (by decide), ?_⟩
    refine ⟨.ref ri, rfl, ri, wds, many, hues, rfl, is4, gr, fun H5 ld s5 nld hld => ?_⟩
    refine ⟨ld, _, rfl, .lst (.inl (.inl hld)) (dpInts _), fc.sho, fc.noD, Nat.lt_of_le_of_lt fc.dep (by decide), fc.shows (by decide) (by decide), rfl, _, rfl, iteNS rfl ?_⟩
    have is5 := is4.mono (tups_same s5)
    have hW5 := hW4.same s5
    have t5 := tab_same t4 s5
    have c5 := tab_same c4 s5
    have hlc5 := s5 _ _ hlc
    have nc : lc ≠ wl ∧ lc ≠ cl := hW3.new nlc
    -- found.append(9)
    refine ⟨.ref lc, rfl, .inl ⟨rfl, _, .inl (.inl hlc5)⟩, lc, _, .int 9, rfl, rfl, hlc5, ?_, ?_⟩
    · rw [List.length_map, cnt_len]
      exact small1000 (by omega)
    have is6 := is5.mono (put_tups (o := .lst ((cntL wds (fillL hues.toNat many.toNat)).map V.int ++ [.int 9])) hlc5)
    have hW6 := hW5.put (o := .lst ((cntL wds (fillL hues.toNat many.toNat)).map V.int ++ [.int 9])) nc
    have t6 := tab_put (o := .lst ((cntL wds (fillL hues.toNat many.toNat)).map V.int ++ [.int 9])) t5 hlc5
    have c6 := tab_put (o := .lst ((cntL wds (fillL hues.toNat many.toNat)).map V.int ++ [.int 9])) c5 hlc5
    generalize upd H5 lc (.lst ((cntL wds (fillL hues.toNat many.toNat)).map V.int ++ [.int 9])) = H6 at is6 hW6 t6 c6
    -- told
    refine ⟨.ref ri, rfl, ri, wds, many, hues, rfl, is6, gr, c6, fun H7 lt f7 nlt ll => ?_⟩
    obtain ⟨ls, hlt, pl, nd, nltl, fls⟩ := ll
    have is7 := is6.mono (f7.tups c6)
    have hW7 := f7.well c6 hW6
    have c7 := f7.2
    have t7 := f7.tab t6
    have lsl : ls.length = wds.length := (pairedLen pl).trans clen
    refine ⟨.ref lt, rfl, lt, listsD ((clsAll wds).drop 0), rfl, .lst (.inl (.inl hlt)) (dpLists pl), (fl 0).sho, (fl 0).noD, Nat.lt_of_le_of_lt (fl 0).dep (by decide), (fl 0).shows (by decide) (by decide), ?_⟩
    refine ⟨.ref ri, rfl, ri, wds, many, hues, rfl, is7, gr, fun H8 lu s8 nlu hlu => ?_⟩
    obtain ⟨us, hu1, hu2⟩ := hlu
    refine ⟨lu, listsD ((clsAll wds).drop 0), rfl, .lst (.inl (.inl hu1)) (dpLists hu2), (fl 0).sho, (fl 0).noD, Nat.lt_of_le_of_lt (fl 0).dep (by decide), (fl 0).shows (by decide) (by decide), rfl, _, rfl, iteNS rfl ?_⟩
    have is8 := is7.mono (tups_same s8)
    have hW8 := hW7.same s8
    have t8 := tab_same t7 s8
    have c8 := tab_same c7 s8
    have hlt8 := s8 _ _ hlt
    have pl8 := pairedMap (fun _ _ e => s8 _ _ e) pl
    have nls : ∀ la ∈ ls, la ≠ wl ∧ la ≠ cl := fun la hla => hW6.new (fls la hla)
    -- the loop
    refine ⟨.ref lt, rfl, lt, _, rfl, .inl (.inl (.inl hlt8)), _, rfl, by omega, ?_, ?_⟩
    · rw [List.length_map]
      omega
    rw [Int.toNat_natCast, List.length_map]
    refine for_range (lo := 0) (n := ls.length) (fun k σ H9 => Well H9 wl cl ∧ GxR.TabG H9 Pt ∧ GxR.TabG H9 Pc ∧ IsRid H9 ri many hues wds ∧ H9 lt = some (.lst (ls.map V.ref)) ∧ Paired (fun la row => H9 la = some (.lst (row.map V.int))) (ls.drop k) ((clsAll wds).drop k) ∧
      ∃ y2 y5 y7, σ = [some (.ref a), some (.ref wl), y2, some (.ref ri), some (.str (PyData.shown (ridD many hues wds))), y5, some (.ref lt), y7]) ⟨hW8, t8, c8, is8, hlt8, pl8, _, _, _, rfl⟩ (fun k σ H9 hk p => ?_) (fun σ H9 p => ?_)
    · obtain ⟨hW9, t9, c9, is9, hlt9, pl9, y2, y5, y7, rfl⟩ := p
      obtain ⟨la, hla⟩ : ∃ la, ls[k]? = some la := ⟨_, List.getElem?_eq_getElem hk⟩
      have ez : (0 : Int) + (k : Int) = k := Int.zero_add _
      have ez1 : (0 : Int) + (k : Int) + 1 = ((k + 1 : Nat) : Int) := by omega
      have edrop : ls.drop k = la :: ls.drop (k + 1) := by
        rw [List.drop_eq_getElem_cons hk]
        rw [List.getElem?_eq_getElem hk] at hla
        cases hla
        rfl
      obtain ⟨row, hrow, hlr⟩ : ∃ row, ((clsAll wds).drop k)[0]? = some row ∧ H9 la = some (.lst (row.map V.int)) := by
        have z := pairedGetL (i := 0) (a := la) pl9 (by rw [edrop]; rfl)
        exact z
      have rl : row.length ≤ 8 := by
        have hm := List.mem_of_mem_drop (List.mem_of_getElem? hrow)
        obtain ⟨wd, _, rfl⟩ := List.mem_map.mp hm
        have := clsL_len wds wd wds.length
        omega
      have nla := nls la (List.mem_of_getElem? hla)
      have nlat : la ≠ lt := fun z => nltl (by rw [← z]; exact List.mem_of_getElem? hla)
      have pl10 : Paired (fun la row => upd H9 la (.lst (row.map V.int ++ [.int 9])) la = upd H9 la (.lst (row.map V.int ++ [.int 9])) la) ([] : List Addr) ([] : List (List Int)) := .nil
      refine ⟨.ref lt, rfl, .int (0 + (k : Int)), rfl, lt, ls.map V.ref, _, .ref la, rfl, rfl, .inl (.inl hlt9), ?_, .inl ⟨rfl, _, .inl (.inl hlr)⟩, la, _, .int 9, rfl, rfl, hlr, ?_, ?_⟩
      · rw [ez]
        exact atI_nat (by rw [List.getElem?_map, hla]; rfl)
      · rw [List.length_map]
        exact small1000 (by omega)
      have is10 := is9.mono (put_tups (o := .lst (row.map V.int ++ [.int 9])) hlr)
      have hW10 := hW9.put (o := .lst (row.map V.int ++ [.int 9])) nla
      have t10 := tab_put (o := .lst (row.map V.int ++ [.int 9])) t9 hlr
      have c10 := tab_put (o := .lst (row.map V.int ++ [.int 9])) c9 hlr
      have hlt10 : upd H9 la (.lst (row.map V.int ++ [.int 9])) lt = some (.lst (ls.map V.ref)) := by rw [upd_ne (Ne.symm nlat)]; exact hlt9
      have pd : Paired (fun la row => H9 la = some (.lst (row.map V.int))) (ls.drop (k + 1)) ((clsAll wds).drop (k + 1)) := by
        have z := paired_drop 1 pl9
        rw [List.drop_drop, List.drop_drop] at z
        exact z
      have nin : la ∉ ls.drop (k + 1) := by
        have z : (ls.drop k).Nodup := (List.drop_sublist k ls).nodup nd
        rw [edrop] at z
        exact (List.nodup_cons.mp z).1
      have pd10 := lists_upd (o := .lst (row.map V.int ++ [.int 9])) pd nin
      generalize upd H9 la (.lst (row.map V.int ++ [.int 9])) = H10 at is10 hW10 t10 c10 hlt10 pd10
      refine ⟨.ref lt, rfl, .int (0 + (k : Int)), rfl, _, _, rfl, rfl, ((k + 1 : Nat) : Int), congrArg V.int ez1, lt, _, rfl, .inl (.inl hlt10), fun lv nlv => ?_⟩
      rw [cut_from, ← List.map_drop]
      have sv := same_upd (o := .lst ((ls.drop (k + 1)).map V.ref)) nlv
      refine ⟨lv, listsD ((clsAll wds).drop (k + 1)), rfl, .lst (.inl (.inl upd_same)) (dpLists (pairedMap (fun _ _ e => sv _ _ e) pd10)), (fl (k + 1)).sho, (fl (k + 1)).noD, Nat.lt_of_le_of_lt (fl (k + 1)).dep (by decide), (fl (k + 1)).shows (by decide) (by decide), ?_⟩
      refine ⟨.ref ri, rfl, ri, wds, many, hues, rfl, is10.mono (tups_same sv), gr, fun H11 lx s11 nlx hlx => ?_⟩
      obtain ⟨xs, hx1, hx2⟩ := hlx
      refine ⟨.int (0 + (k : Int)), rfl, _, _, rfl, rfl, ((k + 1 : Nat) : Int), congrArg V.int ez1, lx, _, rfl, .inl (.inl hx1), fun ly nly => ?_⟩
      rw [cut_from, ← List.map_drop]
      have sy := same_upd (o := .lst ((xs.drop (k + 1)).map V.ref)) nly
      refine ⟨ly, listsD ((clsAll wds).drop (k + 1)), rfl, .lst (.inl (.inl upd_same)) (dpLists (pairedMap (fun _ _ e => sy _ _ e) (paired_drop (k + 1) hx2))), (fl (k + 1)).sho, (fl (k + 1)).noD, Nat.lt_of_le_of_lt (fl (k + 1)).dep (by decide), (fl (k + 1)).shows (by decide) (by decide), rfl, _, rfl, iteNS rfl ?_⟩
      have sz := (sv.trans s11).trans sy
      exact ⟨hW10.same sz, tab_same t10 sz, tab_same c10 sz, is10.mono (tups_same sz), sz _ _ hlt10, pairedMap (fun _ _ e => sz _ _ e) pd10, _, _, _, rfl⟩
    · obtain ⟨hW9, t9, c9, is9, hlt9, pl9, y2, y5, y7, rfl⟩ := p
      refine ⟨.ref ri, rfl, ri, wds, many, hues, rfl, is9, gr, c9, fun H10 l1 f10 n1 ll => ?_⟩
      obtain ⟨l1s, h1a, h1b, _, _, _⟩ := ll
      have is10 := is9.mono (f10.tups c9)
      have hW10 := f10.well c9 hW9
      have t10 := f10.tab t9
      have c10 := f10.2
      refine ⟨l1, listsD ((clsAll wds).drop 0), rfl, .lst (.inl (.inl h1a)) (dpLists h1b), (fl 0).sho, (fl 0).noD, Nat.lt_of_le_of_lt (fl 0).dep (by decide), (fl 0).shows (by decide) (by decide), ?_⟩
      refine ⟨.ref ri, rfl, ri, wds, many, hues, rfl, is10, gr, fun H11 l2 s11 n2 hl2 => ?_⟩
      obtain ⟨l2s, h2a, h2b⟩ := hl2
      refine ⟨l2, listsD ((clsAll wds).drop 0), rfl, .lst (.inl (.inl h2a)) (dpLists h2b), (fl 0).sho, (fl 0).noD, Nat.lt_of_le_of_lt (fl 0).dep (by decide), (fl 0).shows (by decide) (by decide), rfl, _, rfl, iteNS rfl ?_⟩
      have is11 := is10.mono (tups_same s11)
      have hW11 := hW10.same s11
      have t11 := tab_same t10 s11
      have c11 := tab_same c10 s11
      refine ⟨.ref ri, rfl, ri, wds, many, hues, rfl, is11, gr, t11, fun H12 l3 f12 n3 h3 => ?_⟩
      have is12 := is11.mono (f12.tups t11)
      have hW12 := f12.well t11 hW11
      have t12 := f12.2
      have c12 := f12.tab c11
      refine ⟨l3, _, rfl, .lst (.inl (.inl h3)) (dpInts _), fc.sho, fc.noD, Nat.lt_of_le_of_lt fc.dep (by decide), fc.shows (by decide) (by decide), ?_⟩
      refine ⟨.ref ri, rfl, ri, wds, many, hues, rfl, is12, gr, fun H13 l4 s13 n4 h4 => ?_⟩
      refine ⟨l4, _, rfl, .lst (.inl (.inl h4)) (dpInts _), fc.sho, fc.noD, Nat.lt_of_le_of_lt fc.dep (by decide), fc.shows (by decide) (by decide), rfl, _, rfl, iteNS rfl ?_⟩
      have is13 := is12.mono (tups_same s13)
      refine ⟨.ref ri, rfl, ri, _, rfl, dpRid is13, fr.sho, fr.noD, Nat.lt_of_le_of_lt fr.dep (by decide), fr.shows (by decide) (by decide), _, rfl, rfl, _, rfl, iteNS rfl ?_⟩
      exact ⟨hW12.same s13, tab_same t12 s13, tab_same c12 s13, _, _, _, _, _, _, rfl⟩
  · obtain ⟨hW2, t2, c2, y2, y3, y4, y5, y6, y7, rfl⟩ := p
    exact rfl
end
end Rd

set_option Elab.async false
set_option linter.all false
set_option maxRecDepth 100000
set_option maxHeartbeats 4000000
namespace Rd
open PySem PySem.Spec PyProof.Rows L2 Dt
theorem all_mk {l : PySem.W.OpenLaw} {w : World} {K : PySem.W.Frag} {h : Heap} {mg : Str → Option Value} {fa : Addr} {tb : Str → Addr × Addr} (X : K.In h) (G : h.Ns mainGlobals mg) (hfa : mg "law" = some (.ref fa)) (ht : ∀ y ∈ [("hues_at" : Str), ("clash" : Str)], Lg.TabOf mg h y (tb y))
    {f1 f2 f3 f4 f5 f6 f7 f8 f9 f10 f11 f12 f13 f14 f15 f16 f17 : Addr} {od1 an1 od2 an2 od3 an3 od4 an4 od5 an5 od6 an6 od7 an7 od8 an8 od9 an9 od10 an10 od11 an11 od12 an12 od13 an13 od14 an14 od15 an15 od16 an16 od17 an17 : Option Addr} {sl1 sl2 sl3 sl4 sl5 sl6 sl7 sl8 sl9 sl10 sl11 sl12 sl13 sl14 sl15 sl16 sl17 : Array (Option Value)} {oc1 kV1 dc1 pm1 cd1 ct1 oc2 kV2 dc2 pm2 cd2 ct2 oc3 kV3 dc3 pm3 cd3 ct3 oc4 kV4 dc4 pm4 cd4 ct4 oc5 kV5 dc5 pm5 cd5 ct5 oc6 kV6 dc6 pm6 cd6 ct6 oc7 kV7 dc7 pm7 cd7 ct7 oc8 kV8 dc8 pm8 cd8 ct8 oc9 kV9 dc9 pm9 cd9 ct9 oc10 kV10 dc10 pm10 cd10 ct10 oc11 kV11 dc11 pm11 cd11 ct11 oc12 kV12 dc12 pm12 cd12 ct12 oc13 kV13 dc13 pm13 cd13 ct13 oc14 kV14 dc14 pm14 cd14 ct14 oc15 kV15 dc15 pm15 cd15 ct15 oc16 kV16 dc16 pm16 cd16 ct16 oc17 kV17 dc17 pm17 cd17 ct17 : Value}
    (a1 : PySem.W.nsIn K mainGlobals "hues_at" = some (some (.ref f1))) (l1 : K.lookup f1 = some ⟨oc1, od1, .func (PySem.W.fnOf "hues_at" "hues_at" (defArgs sHue) (defBody sHue) (defScope sHue) .none kV1 dc1 pm1 an1 cd1 ct1), sl1⟩) (c1 : PySem.W.codeIn K cd1 "hues_at" = true) (k1 : PySem.W.keepIn K (.ref f1) = true)
    (a2 : PySem.W.nsIn K mainGlobals "is_broken" = some (some (.ref f2))) (l2 : K.lookup f2 = some ⟨oc2, od2, .func (PySem.W.fnOf "is_broken" "is_broken" (defArgs sIsB) (defBody sIsB) (defScope sIsB) .none kV2 dc2 pm2 an2 cd2 ct2), sl2⟩) (c2 : PySem.W.codeIn K cd2 "is_broken" = true) (k2 : PySem.W.keepIn K (.ref f2) = true)
    (a3 : PySem.W.nsIn K mainGlobals "broken" = some (some (.ref f3))) (l3 : K.lookup f3 = some ⟨oc3, od3, .func (PySem.W.fnOf "broken" "broken" (defArgs sBro) (defBody sBro) (defScope sBro) .none kV3 dc3 pm3 an3 cd3 ct3), sl3⟩) (c3 : PySem.W.codeIn K cd3 "broken" = true) (k3 : PySem.W.keepIn K (.ref f3) = true)
    (a4 : PySem.W.nsIn K mainGlobals "all_fillings" = some (some (.ref f4))) (l4 : K.lookup f4 = some ⟨oc4, od4, .func (PySem.W.fnOf "all_fillings" "all_fillings" (defArgs sAlf) (defBody sAlf) (defScope sAlf) .none kV4 dc4 pm4 an4 cd4 ct4), sl4⟩) (c4 : PySem.W.codeIn K cd4 "all_fillings" = true) (k4 : PySem.W.keepIn K (.ref f4) = true)
    (a5 : PySem.W.nsIn K mainGlobals "counts" = some (some (.ref f5))) (l5 : K.lookup f5 = some ⟨oc5, od5, .func (PySem.W.fnOf "counts" "counts" (defArgs sCnt) (defBody sCnt) (defScope sCnt) .none kV5 dc5 pm5 an5 cd5 ct5), sl5⟩) (c5 : PySem.W.codeIn K cd5 "counts" = true) (k5 : PySem.W.keepIn K (.ref f5) = true)
    (a6 : PySem.W.nsIn K mainGlobals "clash" = some (some (.ref f6))) (l6 : K.lookup f6 = some ⟨oc6, od6, .func (PySem.W.fnOf "clash" "clash" (defArgs sCla) (defBody sCla) (defScope sCla) .none kV6 dc6 pm6 an6 cd6 ct6), sl6⟩) (c6 : PySem.W.codeIn K cd6 "clash" = true) (k6 : PySem.W.keepIn K (.ref f6) = true)
    (a7 : PySem.W.nsIn K mainGlobals "clashing" = some (some (.ref f7))) (l7 : K.lookup f7 = some ⟨oc7, od7, .func (PySem.W.fnOf "clashing" "clashing" (defArgs sCls) (defBody sCls) (defScope sCls) .none kV7 dc7 pm7 an7 cd7 ct7), sl7⟩) (c7 : PySem.W.codeIn K cd7 "clashing" = true) (k7 : PySem.W.keepIn K (.ref f7) = true)
    (a8 : PySem.W.nsIn K mainGlobals "_law_well" = some (some (.ref f8))) (l8 : K.lookup f8 = some ⟨oc8, od8, .func (PySem.W.fnOf "_law_well" "_law_well" (defArgs sWell) (defBody sWell) (defScope sWell) .none kV8 dc8 pm8 an8 cd8 ct8), sl8⟩) (c8 : PySem.W.codeIn K cd8 "_law_well" = true) (k8 : PySem.W.keepIn K (.ref f8) = true)
    (a9 : PySem.W.nsIn K mainGlobals "_law_draw" = some (some (.ref f9))) (l9 : K.lookup f9 = some ⟨oc9, od9, .func (PySem.W.fnOf "_law_draw" "_law_draw" (defArgs sDraw) (defBody sDraw) (defScope sDraw) .none kV9 dc9 pm9 an9 cd9 ct9), sl9⟩) (c9 : PySem.W.codeIn K cd9 "_law_draw" = true) (k9 : PySem.W.keepIn K (.ref f9) = true)
    (a10 : PySem.W.nsIn K mainGlobals "_law_power" = some (some (.ref f10))) (l10 : K.lookup f10 = some ⟨oc10, od10, .func (PySem.W.fnOf "_law_power" "_law_power" (defArgs sPow) (defBody sPow) (defScope sPow) .none kV10 dc10 pm10 an10 cd10 ct10), sl10⟩) (c10 : PySem.W.codeIn K cd10 "_law_power" = true) (k10 : PySem.W.keepIn K (.ref f10) = true)
    (a11 : PySem.W.nsIn K mainGlobals "_law_wish" = some (some (.ref f11))) (l11 : K.lookup f11 = some ⟨oc11, od11, .func (PySem.W.fnOf "_law_wish" "_law_wish" (defArgs sWis) (defBody sWis) (defScope sWis) .none kV11 dc11 pm11 an11 cd11 ct11), sl11⟩) (c11 : PySem.W.codeIn K cd11 "_law_wish" = true) (k11 : PySem.W.keepIn K (.ref f11) = true)
    (a12 : PySem.W.nsIn K mainGlobals "_law_riddle" = some (some (.ref f12))) (l12 : K.lookup f12 = some ⟨oc12, od12, .func (PySem.W.fnOf "_law_riddle" "_law_riddle" (defArgs sRid) (defBody sRid) (defScope sRid) .none kV12 dc12 pm12 an12 cd12 ct12), sl12⟩) (c12 : PySem.W.codeIn K cd12 "_law_riddle" = true) (k12 : PySem.W.keepIn K (.ref f12) = true)
    (a13 : PySem.W.nsIn K mainGlobals "_law_fillings" = some (some (.ref f13))) (l13 : K.lookup f13 = some ⟨oc13, od13, .func (PySem.W.fnOf "_law_fillings" "_law_fillings" (defArgs sLfi) (defBody sLfi) (defScope sLfi) .none kV13 dc13 pm13 an13 cd13 ct13), sl13⟩) (c13 : PySem.W.codeIn K cd13 "_law_fillings" = true) (k13 : PySem.W.keepIn K (.ref f13) = true)
    (a14 : PySem.W.nsIn K mainGlobals "_law_broken" = some (some (.ref f14))) (l14 : K.lookup f14 = some ⟨oc14, od14, .func (PySem.W.fnOf "_law_broken" "_law_broken" (defArgs sLbr) (defBody sLbr) (defScope sLbr) .none kV14 dc14 pm14 an14 cd14 ct14), sl14⟩) (c14 : PySem.W.codeIn K cd14 "_law_broken" = true) (k14 : PySem.W.keepIn K (.ref f14) = true)
    (a15 : PySem.W.nsIn K mainGlobals "_law_counts" = some (some (.ref f15))) (l15 : K.lookup f15 = some ⟨oc15, od15, .func (PySem.W.fnOf "_law_counts" "_law_counts" (defArgs sLco) (defBody sLco) (defScope sLco) .none kV15 dc15 pm15 an15 cd15 ct15), sl15⟩) (c15 : PySem.W.codeIn K cd15 "_law_counts" = true) (k15 : PySem.W.keepIn K (.ref f15) = true)
    (a16 : PySem.W.nsIn K mainGlobals "_law_clashing" = some (some (.ref f16))) (l16 : K.lookup f16 = some ⟨oc16, od16, .func (PySem.W.fnOf "_law_clashing" "_law_clashing" (defArgs sLcl) (defBody sLcl) (defScope sLcl) .none kV16 dc16 pm16 an16 cd16 ct16), sl16⟩) (c16 : PySem.W.codeIn K cd16 "_law_clashing" = true) (k16 : PySem.W.keepIn K (.ref f16) = true)
    (a17 : PySem.W.nsIn K mainGlobals "law" = some (some (.ref f17))) (l17 : K.lookup f17 = some ⟨oc17, od17, .func (PySem.W.fnOf "law" "law" (defArgs sLaw) (defBody sLaw) (defScope sLaw) .none kV17 dc17 pm17 an17 cd17 ct17), sl17⟩) (c17 : PySem.W.codeIn K cd17 "law" = true) (k17 : PySem.W.keepIn K (.ref f17) = true)
    (z_abs : PySem.W.nsIn K mainGlobals "abs" = some none)
    (z_range : PySem.W.nsIn K mainGlobals "range" = some none)
    (z_list : PySem.W.nsIn K mainGlobals "list" = some none)
    (z_min : PySem.W.nsIn K mainGlobals "min" = some none)
    (z_max : PySem.W.nsIn K mainGlobals "max" = some none)
    (z_len : PySem.W.nsIn K mainGlobals "len" = some none)
    (z_sorted : PySem.W.nsIn K mainGlobals "sorted" = some none)
    (z_tuple : PySem.W.nsIn K mainGlobals "tuple" = some none)
    (z_zip : PySem.W.nsIn K mainGlobals "zip" = some none)
    (z_enumerate : PySem.W.nsIn K mainGlobals "enumerate" = some none)
    (z_repr : PySem.W.nsIn K mainGlobals "repr" = some none)
    (z_any : PySem.W.nsIn K mainGlobals "any" = some none) :
    ∃ fd : FuncData, Fun K "law" "law" sLaw fa fd ∧ (∀ (s : Shared) (v : Value), BindsTo s fd ⟨[v], []⟩ [("script", v)]) ∧ ∀ (base : Heap) (H : Hp) (cdv : Value) (a : Addr) (ns : List Int) (s : Shared), K.In base → base.Ns mainGlobals mg → (∀ y ∈ [("hues_at" : Str), ("clash" : Str)], GxR.TabB base mg (tb y).1 (tb y).2) → (∀ y ∈ [("hues_at" : Str), ("clash" : Str)], H (tb y).2 = some (.tbl #[])) → ns.length ≤ 63 → (∀ z ∈ ns, Builtin.Int.intBits z ≤ 1048576) → SqL K H a (ns.map V.int) → Room 4 (callerA.deeper (envOfC "law" (defScope sLaw) s.heap.objs.size fa cdv)) →
        ∃ t, PSs (cxOf CX0 l.prog w K mg base nLaw "law" (defScope sLaw) fa cdv callerA [] s H (fun _ _ _ => False)).nox (defBody sLaw) t ∧ t { nx := fun _ _ => False, rt := fun v _ => v = .bl true } (start nLaw [.ref a]) H := by
  have e := hfa.symm.trans (PySem.W.mg_of X G a17)
  cases e
  have F1 := fun_mk (st := sHue) l1 c1 k1
  have F2 := fun_mk (st := sIsB) l2 c2 k2
  have F3 := fun_mk (st := sBro) l3 c3 k3
  have F4 := fun_mk (st := sAlf) l4 c4 k4
  have F5 := fun_mk (st := sCnt) l5 c5 k5
  have F6 := fun_mk (st := sCla) l6 c6 k6
  have F7 := fun_mk (st := sCls) l7 c7 k7
  have F8 := fun_mk (st := sWell) l8 c8 k8
  have F9 := fun_mk (st := sDraw) l9 c9 k9
  have F10 := fun_mk (st := sPow) l10 c10 k10
  have F11 := fun_mk (st := sWis) l11 c11 k11
  have F12 := fun_mk (st := sRid) l12 c12 k12
  have F13 := fun_mk (st := sLfi) l13 c13 k13
  have F14 := fun_mk (st := sLbr) l14 c14 k14
  have F15 := fun_mk (st := sLco) l15 c15 k15
  have F16 := fun_mk (st := sLcl) l16 c16 k16
  have F17 := fun_mk (st := sLaw) l17 c17 k17
  have b1 := F1.binds (ps := ["filling", "places"]) fun _ _ _ _ _ _ us hl => match us, hl with | [_, _], _ => rfl
  have b2 := F2.binds (ps := ["wish", "filling"]) fun _ _ _ _ _ _ us hl => match us, hl with | [_, _], _ => rfl
  have b3 := F3.binds (ps := ["riddle", "filling"]) fun _ _ _ _ _ _ us hl => match us, hl with | [_, _], _ => rfl
  have b4 := F4.binds (ps := ["many", "hues"]) fun _ _ _ _ _ _ us hl => match us, hl with | [_, _], _ => rfl
  have b5 := F5.binds (ps := ["riddle"]) fun _ _ _ _ _ _ us hl => match us, hl with | [_], _ => rfl
  have b6 := F6.binds (ps := ["one", "other"]) fun _ _ _ _ _ _ us hl => match us, hl with | [_, _], _ => rfl
  have b7 := F7.binds (ps := ["riddle"]) fun _ _ _ _ _ _ us hl => match us, hl with | [_], _ => rfl
  have b8 := F8.binds (ps := ["script"]) fun _ _ _ _ _ _ us hl => match us, hl with | [_], _ => rfl
  have b9 := F9.binds (ps := ["well", "many"]) fun _ _ _ _ _ _ us hl => match us, hl with | [_, _], _ => rfl
  have b10 := F10.binds (ps := ["number", "many"]) fun _ _ _ _ _ _ us hl => match us, hl with | [_, _], _ => rfl
  have b11 := F11.binds (ps := ["well", "many", "hues"]) fun _ _ _ _ _ _ us hl => match us, hl with | [_, _, _], _ => rfl
  have b12 := F12.binds (ps := ["well", "most_places", "most_wishes"]) fun _ _ _ _ _ _ us hl => match us, hl with | [_, _, _], _ => rfl
  have b13 := F13.binds (ps := ["riddle"]) fun _ _ _ _ _ _ us hl => match us, hl with | [_], _ => rfl
  have b14 := F14.binds (ps := ["riddle", "filling"]) fun _ _ _ _ _ _ us hl => match us, hl with | [_, _], _ => rfl
  have b15 := F15.binds (ps := ["riddle"]) fun _ _ _ _ _ _ us hl => match us, hl with | [_], _ => rfl
  have b16 := F16.binds (ps := ["riddle"]) fun _ _ _ _ _ _ us hl => match us, hl with | [_], _ => rfl
  have m_abs := PySem.W.mg_none_of X G z_abs
  have m_range := PySem.W.mg_none_of X G z_range
  have m_list := PySem.W.mg_none_of X G z_list
  have m_min := PySem.W.mg_none_of X G z_min
  have m_max := PySem.W.mg_none_of X G z_max
  have m_len := PySem.W.mg_none_of X G z_len
  have m_sorted := PySem.W.mg_none_of X G z_sorted
  have m_tuple := PySem.W.mg_none_of X G z_tuple
  have m_zip := PySem.W.mg_none_of X G z_zip
  have m_enumerate := PySem.W.mg_none_of X G z_enumerate
  have m_repr := PySem.W.mg_none_of X G z_repr
  have m_any := PySem.W.mg_none_of X G z_any
  have g1 := PySem.W.mg_of X G a1
  have g2 := PySem.W.mg_of X G a2
  have g3 := PySem.W.mg_of X G a3
  have g4 := PySem.W.mg_of X G a4
  have g5 := PySem.W.mg_of X G a5
  have g6 := PySem.W.mg_of X G a6
  have g7 := PySem.W.mg_of X G a7
  have g8 := PySem.W.mg_of X G a8
  have g9 := PySem.W.mg_of X G a9
  have g10 := PySem.W.mg_of X G a10
  have g11 := PySem.W.mg_of X G a11
  have g12 := PySem.W.mg_of X G a12
  have g13 := PySem.W.mg_of X G a13
  have g14 := PySem.W.mg_of X G a14
  have g15 := PySem.W.mg_of X G a15
  have g16 := PySem.W.mg_of X G a16
  have g17 := PySem.W.mg_of X G a17
  have tc1 := (ht "hues_at" (by decide)).code X g1 l1
  cases tc1
  have tc6 := (ht "clash" (by decide)).code X g6 l6
  cases tc6
  refine ⟨_, F17, fun s v => .of_eq rfl, fun base H cdv a ns s kb gb tB tH hl hb hS hrm => ?_⟩
  have TB1 := tB "hues_at" (by decide)
  have TH1 := tH "hues_at" (by decide)
  have TB6 := tB "clash" (by decide)
  have TH6 := tH "clash" (by decide)
  have C1 : Cal l.prog w K mg base 1 "hues_at" ["filling", "places"] (spHues (tb "hues_at").2) := ⟨_, _, ok_hues (k := 0) ⟨⟨_, _, _, _, _, _, _, _, rfl, l1, c1⟩⟩ TB1 m_tuple, g1, k1, b1⟩
  have C2 : Cal l.prog w K mg base 2 "is_broken" ["wish", "filling"] (spIsB (tb "hues_at").2) := ⟨_, _, ok_isB (k := 0) F2 C1, g2, k2, b2⟩
  have C3 : Cal l.prog w K mg base 3 "broken" ["riddle", "filling"] (spBro (tb "hues_at").2) := ⟨_, _, ok_bro (k := 0) F3 m_enumerate C2, g3, k3, b3⟩
  have C4 : Cal l.prog w K mg base 1 "all_fillings" ["many", "hues"] spAlf := ⟨_, _, ok_alf (k := 0) F4 { m_range := m_range }, g4, k4, b4⟩
  have C5 : Cal l.prog w K mg base 4 "counts" ["riddle"] (spCnt (tb "hues_at").2) := ⟨_, _, ok_cnt (k := 0) F5 { m_len := m_len, c_all_fillings := C4, c_broken := C3 }, g5, k5, b5⟩
  have C6 : Cal l.prog w K mg base 1 "clash" ["one", "other"] (spCla (tb "clash").2) := ⟨_, _, ok_cla (k := 0) ⟨⟨_, _, _, _, _, _, _, _, rfl, l6, c6⟩⟩ TB6 m_any, g6, k6, b6⟩
  have C7 : Cal l.prog w K mg base 2 "clashing" ["riddle"] (spCls (tb "clash").2) := ⟨_, _, ok_cls (k := 0) F7 { m_enumerate := m_enumerate, c_clash := C6 }, g7, k7, b7⟩
  have C8 : Cal l.prog w K mg base 1 "_law_well" ["script"] (spWell K) := ⟨_, _, ok_well (k := 0) F8 m_abs, g8, k8, b8⟩
  have C9 : Cal l.prog w K mg base 1 "_law_draw" ["well", "many"] spDraw := ⟨_, _, ok_draw (k := 0) F9, g9, k9, b9⟩
  have C10 : Cal l.prog w K mg base 1 "_law_power" ["number", "many"] spPow := ⟨_, _, ok_pow (k := 0) F10 m_range, g10, k10, b10⟩
  have TW : TxtW l.prog w K mg base := { m_range := m_range, m_list := m_list, m_min := m_min, m_max := m_max, m_len := m_len, m_sorted := m_sorted, m_tuple := m_tuple, c__law_draw := C9, c__law_power := C10 }
  have C11 : Cal l.prog w K mg base 2 "_law_wish" ["well", "many", "hues"] spWis := ⟨_, _, ok_wis (k := 0) F11 TW, g11, k11, b11⟩
  have TR : TxtR l.prog w K mg base := { toTxtW := TW, m_zip := m_zip, c__law_wish := C11 }
  have C12 : Cal l.prog w K mg base 3 "_law_riddle" ["well", "most_places", "most_wishes"] spRid := ⟨_, _, ok_rid (k := 0) F12 TR, g12, k12, b12⟩
  have TF : TxtF l.prog w K mg base := { m_range := m_range, m_len := m_len }
  have C13 : Cal l.prog w K mg base 1 "_law_fillings" ["riddle"] spLfi := ⟨_, _, ok_lfi (k := 0) F13 TF, g13, k13, b13⟩
  have C14 : Cal l.prog w K mg base 1 "_law_broken" ["riddle", "filling"] spLbr := ⟨_, _, ok_lbr (k := 0) F14 m_enumerate m_tuple, g14, k14, b14⟩
  have C15 : Cal l.prog w K mg base 2 "_law_counts" ["riddle"] spLco := ⟨_, _, ok_lco (k := 0) F15 { toTxtF := TF, c__law_fillings := C13, c__law_broken := C14 }, g15, k15, b15⟩
  have C16 : Cal l.prog w K mg base 1 "_law_clashing" ["riddle"] spLcl := ⟨_, _, ok_lcl (k := 0) F16 TF, g16, k16, b16⟩
  exact body_law { m_range := m_range, m_repr := m_repr, m_len := m_len, c__law_well := C8, c__law_riddle := C12, c__law_counts := C15, c__law_clashing := C16, c_counts := C5, c_clashing := C7 } hl hb TH1 TH6 hS hrm
end Rd

set_option Elab.async false
set_option linter.all false
set_option maxRecDepth 100000
set_option maxHeartbeats 4000000
open PySem PySem.W PyProof.Rows
set_option maxHeartbeats 0 in
theorem PySem.Challenge.cw_redraw_k03_counts_and_clashes_holds : PySem.Challenge.rw_redraw_k03_counts_and_clashes.Holds := by
  w_on; o_law; k_head; (case hw => w_witness2)
  k_fill
  refine Lg.walk_of (l := PySem.Challenge.rw_redraw_k03_counts_and_clashes) (n := 63) (k := 4) (x := "law") (qual := "law") (par := "script") (st := Rd.sLaw) (N := Rd.nLaw) ["hues_at", "clash"] rfl (by decide) rfl ⟨rfl, by decide, by decide⟩ (by rfl) ?hK (fun w h Y => PySem.W.kIn_of Y) Rd.scLaw ?F
  case hK => intro w; kernel_rfl
  case F =>
    intro w mg fa h tb KX G hmg ht
    refine' Rd.all_mk KX G hmg ht ?a1 ?l1 ?c1 ?k1 ?a2 ?l2 ?c2 ?k2 ?a3 ?l3 ?c3 ?k3 ?a4 ?l4 ?c4 ?k4 ?a5 ?l5 ?c5 ?k5 ?a6 ?l6 ?c6 ?k6 ?a7 ?l7 ?c7 ?k7 ?a8 ?l8 ?c8 ?k8 ?a9 ?l9 ?c9 ?k9 ?a10 ?l10 ?c10 ?k10 ?a11 ?l11 ?c11 ?k11 ?a12 ?l12 ?c12 ?k12 ?a13 ?l13 ?c13 ?k13 ?a14 ?l14 ?c14 ?k14 ?a15 ?l15 ?c15 ?k15 ?a16 ?l16 ?c16 ?k16 ?a17 ?l17 ?c17 ?k17 ?z_abs ?z_range ?z_list ?z_min ?z_max ?z_len ?z_sorted ?z_tuple ?z_zip ?z_enumerate ?z_repr ?z_any
    (case a1 => k_is); (case l1 => k_is); (case c1 => k_is); (case k1 => k_is); (case a2 => k_is); (case l2 => k_is); (case c2 => k_is); (case k2 => k_is); (case a3 => k_is); (case l3 => k_is); (case c3 => k_is); (case k3 => k_is); (case a4 => k_is); (case l4 => k_is); (case c4 => k_is); (case k4 => k_is); (case a5 => k_is); (case l5 => k_is); (case c5 => k_is); (case k5 => k_is); (case a6 => k_is); (case l6 => k_is); (case c6 => k_is); (case k6 => k_is); (case a7 => k_is); (case l7 => k_is); (case c7 => k_is); (case k7 => k_is); (case a8 => k_is); (case l8 => k_is); (case c8 => k_is); (case k8 => k_is); (case a9 => k_is); (case l9 => k_is); (case c9 => k_is); (case k9 => k_is); (case a10 => k_is); (case l10 => k_is); (case c10 => k_is); (case k10 => k_is); (case a11 => k_is); (case l11 => k_is); (case c11 => k_is); (case k11 => k_is); (case a12 => k_is); (case l12 => k_is); (case c12 => k_is); (case k12 => k_is); (case a13 => k_is); (case l13 => k_is); (case c13 => k_is); (case k13 => k_is); (case a14 => k_is); (case l14 => k_is); (case c14 => k_is); (case k14 => k_is); (case a15 => k_is); (case l15 => k_is); (case c15 => k_is); (case k15 => k_is); (case a16 => k_is); (case l16 => k_is); (case c16 => k_is); (case k16 => k_is); (case a17 => k_is); (case l17 => k_is); (case c17 => k_is); (case k17 => k_is); (case z_abs => k_is); (case z_range => k_is); (case z_list => k_is); (case z_min => k_is); (case z_max => k_is); (case z_len => k_is); (case z_sorted => k_is); (case z_tuple => k_is); (case z_zip => k_is); (case z_enumerate => k_is); (case z_repr => k_is); (case z_any => k_is)
