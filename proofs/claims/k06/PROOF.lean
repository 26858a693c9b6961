import PyProof.Rows.All
import Wide.All
import OpenK.AllK
import Wide.FinOn
import HandS.ForMost
import HandS.ForExc
import HandS.IsInst
import HandS.Strs
import HandS.SetFor
import HandS.SortInts
import HandS.Wide
import HandS.TupAny
import HandS.More
import HandS.Property
import HandS.Walk
import KE.GoesEnum
import HandS.Conv
import PySem.Challenge.RW_fieldrides_k06_paths_and_leaves
set_option Elab.async false
set_option linter.all false
set_option maxRecDepth 100000
/-! My base: defs by name, heaps but for one list, sets of ints from a list. -/
namespace My
open PySem PySem.Spec PyProof.Rows L2

/-! ### a def that stands under a name of the module -/
structure Df (K : PySem.W.Frag) (mg : Str → Option Value) (x : Str) (st : Stmt) (ps : List Str) : Prop where
  ex : ∃ (f : Addr) (fd : FuncData), Fun K x x st f fd ∧ Binds K fd ps [] ∧ mg x = some (.ref f)
structure Dn (P : Program) (w : World) (K : PySem.W.Frag) (mg : Str → Option Value) (base : Heap) (k : Nat) (x : Str) (sp : Sp) : Prop where
  ex : ∃ (f : Addr) (fd : FuncData) (ps : List Str), FnOk P w K mg base CX0 k f fd ps sp ∧ mg x = some (.ref f) ∧ PySem.W.keepIn K (.ref f) = true ∧ Binds K fd ps []
section
variable {P : Program} {w : World} {K : PySem.W.Frag} {mg : Str → Option Value} {base : Heap}
theorem Df.ok {x : Str} {st : Stmt} {N ps : List Str} {k : Nat} {sp : Sp} (F : Df K mg x st ps) (S : FnScope N ps (defScope st)) (len : ∀ vs H Q E, sp vs H Q E → vs.length = ps.length)
    (body : ∀ (f : Addr) (cdv : Value) (A : Around) (outer : List Env) (s : Shared) (H : Hp) (vs : List V) (Q : VK) (E : XK),
      Room k (A.deeper (envOfC x (defScope st) s.heap.objs.size f cdv)) → sp vs H Q E →
      ∃ t, PSs (cxOf CX0 P w K mg base N x (defScope st) f cdv A outer s H E).nox (defBody st) t ∧
        t { nx := fun _ H' => Q .non H', rt := Q } (start N vs) H) : Dn P w K mg base (k + 1) x sp := by
  obtain ⟨f, fd, F, b, m⟩ := F.ex
  exact ⟨f, fd, ps, F.ok S len (body f), m, F.kp, b⟩
theorem Dn.mono {x : Str} {j k : Nat} {sp : Sp} (D : Dn P w K mg base j x sp) (h : j ≤ k) : Dn P w K mg base k x sp := by
  obtain ⟨f, fd, ps, F, m, q, b⟩ := D.ex
  exact ⟨f, fd, ps, F.mono h, m, q, b⟩
theorem Dn.imp {x : Str} {k : Nat} {sp sp' : Sp} (D : Dn P w K mg base k x sp) (h : ∀ vs H Q E, sp' vs H Q E → sp vs H Q E) : Dn P w K mg base k x sp' := by
  obtain ⟨f, fd, ps, F, m, q, b⟩ := D.ex
  exact ⟨f, fd, ps, F.imp h, m, q, b⟩
/-- nothing is promised of a call that can't be -/
theorem Df.none {x : Str} {st : Stmt} {ps : List Str} {sp : Sp} (F : Df K mg x st ps) (no : ∀ vs H Q E, ¬ sp vs H Q E) (k : Nat) : Dn P w K mg base k x sp := by
  obtain ⟨f, fd, F, b, m⟩ := F.ex
  exact ⟨f, fd, ps, ⟨fun vs H Q E h => absurd h (no vs H Q E), fun A outer s H args us vs Q E _ _ _ _ h => absurd h (no vs H Q E)⟩, m, F.kp, b⟩
end
section
variable {X : Cx} {k : Nat} {x : Str} {sp : Sp} {e : Expr} {es : List Expr} {t : TA} {p pos : Pos}
theorem pe_callD (D : Dn X.prog X.w X.K X.mg X.base k x sp) (hr : Room k X.A) (hg : Gl X x) (ha : PA X (e :: es) t) (hdb : (x == ("__debug__" : Str)) = false := by decide)
    (he : starEach (e :: es) X.env = (false, eval e X.env) :: starEach es X.env := by rfl) (hpl : (backTo pos (starEach es X.env)).any (·.1) = false := by rfl) :
    PE X (.Call (.Name x p) (e :: es) [] pos) (tCall sp [] E0 t) := by
  obtain ⟨f, fd, ps, F, m, q, b⟩ := D.ex
  exact pe_call F hr hg m q b .nil pass0 ha hdb he hpl
theorem pe_callD0 (D : Dn X.prog X.w X.K X.mg X.base k x sp) (hr : Room k X.A) (hg : Gl X x) (hdb : (x == ("__debug__" : Str)) = false := by decide) :
    PE X (.Call (.Name x p) [] [] pos) (tCall sp [] E0 tNil) := by
  obtain ⟨f, fd, ps, F, m, q, b⟩ := D.ex
  exact pe_call0 F hr hg m q b .nil pass0 hdb
end

/-! ### heaps -/
theorem same_new {H : Hp} {p : Addr} (h : H p = Option.none) (o : HO) : Same H (upd H p o) := fun b u q => by rw [upd_ne (ne_of_none q h)]; exact q
/-- all but what stands at t is as it was -/
def But (t : Addr) (H H' : Hp) : Prop := ∀ b o, b ≠ t → H b = some o → H' b = some o
theorem But.refl (t : Addr) (H : Hp) : But t H H := fun _ _ _ h => h
theorem But.trans {t : Addr} {H H1 H2 : Hp} (a : But t H H1) (b : But t H1 H2) : But t H H2 := fun c o n h => b c o n (a c o n h)
theorem But.of {t : Addr} {H H' : Hp} (h : Same H H') : But t H H' := fun b o _ q => h b o q
theorem But.upd {t : Addr} {H : Hp} (o : HO) : But t H (upd H t o) := fun b u n q => by rw [upd_ne n]; exact q
theorem But.new {t p : Addr} {H : Hp} (h : H p = Option.none) (o : HO) : But t H (L2.upd H p o) := .of (same_new h o)
theorem But.tup {t p : Addr} {H H' : Hp} {l xs : List V} (b : But t H H') (ht : H t = some (.lst l)) (h : H p = some (.tup xs)) : H' p = some (.tup xs) :=
  b p _ (ne_of h ht (by intro z; cases z)) h
/-- from the heap ahead of the list at t -/
theorem But.same {t : Addr} {H0 H' : Hp} {o : HO} (n : H0 t = Option.none) (b : But t (L2.upd H0 t o) H') : Same H0 H' := fun c u q =>
  b c u (ne_of_none q n) (by rw [upd_ne (ne_of_none q n)]; exact q)
theorem _root_.L2.Same.seqT {K : PySem.W.Frag} {H H' : Hp} {a : Addr} {xs : List V} (e : Same H H') (h : SqT K H a xs) : SqT K H' a xs := by
  rcases h with (h | ⟨o, h⟩) | h
  · exact .inl (.inl (e _ _ h))
  · exact .inl (.inr ⟨o, e _ _ h⟩)
  · exact .inr h

/-! ### numbers in a list -/
theorem nodup_small : ∀ (n : Nat) (ds : List Int), ds.Nodup → (∀ z ∈ ds, 0 ≤ z ∧ z < (n : Int)) → ds.length ≤ n
  | 0, [], _, _ => Nat.le_refl _
  | 0, d :: ds, _, h => by have := h d (List.mem_cons_self ..); omega
  | n + 1, ds, nd, h => by
    have q := nodup_small n (ds.erase (n : Int)) (nd.erase _) fun z hz => by
      have h1 := h z (List.mem_of_mem_erase hz)
      have h2 : z ≠ (n : Int) := fun e => by
        subst e
        exact (nd.not_mem_erase hz)
      omega
    have l := List.length_erase_le (a := (n : Int)) (l := ds)
    by_cases m : (n : Int) ∈ ds
    · rw [List.length_erase_of_mem m] at q
      omega
    · rw [List.erase_of_not_mem m] at q
      omega

/-! ### the set of a list of ints -/
section
variable {P : Program} {w : World} {A : Around} {E : Value → Shared → Prop} {s : Shared}
set_option maxHeartbeats 3200000 in
theorem set_of_ints {l : Addr} {xs : Array Value} (ns : List Int) {Q : Value → Shared → Prop} (hh : A.handled = none) (hl : s.heap.IsList l xs) (hit : IntsAre xs.toList ns) (hb : ns.length + 1 < scanBound)
    (q : ∀ (h' : Heap) (tk c : Nat), SetR w h' s.heap.objs.size (fun j => decide (j ∈ ns)) c → (∀ b o, s.heap.get? b = some o → h'.get? b = some o) → Q (.ref s.heap.objs.size) { s with heap := h', toks := tk }) :
    wpAny (model P w) A (call (.type "set") [.ref l]) Q E s := by
  have size_eq : xs.size = ns.length := by
    have z := IntsAre.length hit
    rwa [Array.length_toList] at z
  let S0 : Obj := { cls := .type "set", dict := none, data := .set #[] 0 (.fresh 0 0 (!w.params.followText "set-order")) }
  obtain ⟨c1, t1, m1⟩ := F.called_set.mro
  have m2 := F.called_set.made; have m3 := F.called_set.sub
  refine wpAny_call (codeAny_of_tree ?_)
  change wpAny _ _ (callAny (.type "set") _) _ _ _
  refine wpAny_pure ⟨Code.quiet_builtin _ (by decide +kernel), ?_⟩
  refine codeAny_builtin F.entry_type_call ?_
  rw [Around.under_plain (weight_type_call_type "set" [Value.ref l] []) rfl]
  have m4 := F.called_set.notType; have m5 := F.called_set.canCreate; have m6 := F.typeCall_set_1 (.ref l)
  repeat (any_goals (first | wp_step | assumption))
  refine codeAny_mono (code_set_led1 (.ref l) (E := E) (Q₁ := fun v z => v = .ref s.heap.objs.size ∧ z = { s with heap := s.heap.push S0 }) ⟨rfl, rfl⟩) fun r z hr => ?_
  match r, hr with
  | .error e, hr => exact hr
  | .ok .next, hr => exact hr.elim
  | .ok .brk, hr => exact hr.elim
  | .ok .cont, hr => exact hr.elim
  | .ok (.ret v), hr =>
    obtain ⟨rfl, rfl⟩ := hr
    have at0 : (s.heap.push S0).get? s.heap.objs.size = some S0 := Heap.get?_push_size _ rfl
    have ty0 : Shared.TypeIs { s with heap := s.heap.push S0 } (.ref s.heap.objs.size) "set" := ⟨_, at0, rfl⟩
    have i1 := F.called_set.init.lookup; have i2 := F.called_set.init.bind (.ref s.heap.objs.size)
    repeat (any_goals (first | wp_step | assumption))
    refine codeAny_mono (codeAny_call_builtin (R := wants (fun r z => r = .none ∧ ∃ h' tk c, z = { s with heap := h', toks := tk } ∧ SetR w h' s.heap.objs.size (fun j => decide (j ∈ ns)) c ∧ (∀ b o, s.heap.get? b = some o → h'.get? b = some o)) E)
      F.called_set.init.plain F.entry_set_init (check_set_init_1 ty0 ?_)) fun r2 z2 hr2 => ?_
    · obtain ⟨⟨oc, od, oda, osl⟩, g0, g1, nn, g2⟩ := hl
      simp only at g1 g2
      subst g1; subst g2
      have old : (s.heap.push S0).get? l = some { cls := .type "list", dict := od, data := .seq xs nn, slots := osl } := Heap.get?_push_of_some _ g0
      have n1 := F.sub_list_set; have n2 := F.sub_list_frozenset
      have n3 : (Value.type "list" == Value.type "dict") = false := by decide
      have li : (s.heap.push S0).IsList l xs := ⟨_, old, rfl, nn, rfl⟩
      unfold Builtin.«set.__init__» noKeywords Builtin.Frozenset.updateFrom
      generalize hPI : pyIter = PI
      wp_walk
      subst hPI
      refine wpAny_pyIter_list li (wpAny_bind (wpAny_runValue ?_))
      have l0 : l < s.heap.objs.size := Heap.lt_size g0
      have hd0 : A.in1.in1.in1.handled = none := by simp [hh]
      have sz1 : (s.heap.push S0).objs.size = s.heap.objs.size + 1 := Heap.size_push ..
      have l1 : l ≠ (s.heap.push S0).objs.size := by rw [sz1]; exact Nat.ne_of_lt (Nat.lt_succ_of_lt l0)
      have s1 : s.heap.objs.size ∉ [(s.heap.push S0).objs.size, l] := by
        rw [sz1]
        simp only [List.mem_cons, List.not_mem_nil, or_false, not_or]
        exact ⟨Nat.ne_of_lt (Nat.lt_succ_self _), Nat.ne_of_gt l0⟩
      have items : ∀ (i : Nat) (v : Value), xs[i]? = some v → ∃ k t, ns[i]? = some k ∧ v = .int k t := fun i v hv => by
        have lt : i < ns.length := by rw [← size_eq]; exact (Array.getElem?_eq_some_iff.mp hv).1
        obtain ⟨t, e⟩ := PyProof.Rows.IntsAre.int_at hit i v (by rw [Array.getElem?_toList]; exact hv)
        exact ⟨ns[i], t, List.getElem?_eq_getElem lt, by rw [e, List.getD_eq_getElem?_getD, List.getElem?_eq_getElem lt]; rfl⟩
      refine set_update_ints ((Walks.list hd0 _ l l1 xs).toS) s.heap.objs.size s1 ns size_eq hb items (xs.size - 0) 0 _ (by omega) (Nat.zero_le _) ⟨⟨_, Heap.get?_push_size _ rfl, rfl, rfl⟩, (li.push _)⟩ ?first ?last
      case first => exact ⟨0, Nat.le_refl 0, setR_new_at (Heap.get?_push_of_some _ at0)⟩
      case last =>
        intro z c hm _ hz
        obtain ⟨h', g2, d', tk', os'⟩ := z
        obtain rfl : g2 = s.gens := hm.gens
        obtain rfl : d' = s.drawn := hm.drawn
        obtain rfl : os' = s.os := hm.os
        show wpAny _ _ _ _ _ _
        refine wpAny_pure (?_ : wpAny _ _ (ret Value.none) _ _ _)
        refine wpAny_pure ⟨rfl, h', tk', c, rfl, hz, fun b o e => ?_⟩
        have b0 := Heap.lt_size e
        refine hm.heap b o ?_ (Heap.get?_push_of_some _ (Heap.get?_push_of_some _ e))
        rw [sz1]
        simp only [List.mem_cons, List.not_mem_nil, or_false, not_or]
        exact ⟨Nat.ne_of_lt b0, Nat.ne_of_lt (Nat.lt_succ_of_lt b0)⟩
    · match r2, hr2 with
      | .error e, hr2 => exact hr2
      | .ok .next, hr2 => exact hr2.elim
      | .ok .brk, hr2 => exact hr2.elim
      | .ok .cont, hr2 => exact hr2.elim
      | .ok (.ret v2), hr2 =>
        obtain ⟨rfl, h', tk, c, rfl, hz, hk⟩ := hr2
        repeat (any_goals (first | wp_step | assumption))
        exact q _ _ _ hz hk
end
theorem SetR.list {w : World} {h : Heap} {a : Addr} {S : Int → Bool} {n : Nat} (R : SetR w h a S n) : ∃ ds : List Int, ds.Nodup ∧ (∀ z, z ∈ ds ↔ S z = true) ∧ ds.length = n := by
  obtain ⟨o, es, ep, t, _, _, _, _, nd, m, _, _, e, _⟩ := R
  exact ⟨es.toList.map keyOf, nd, fun z => (m z).symm, by rw [List.length_map, Array.length_toList]; exact e⟩
/-- set(xs), xs a list of ints -/
def rSetI (K : PySem.W.Frag) (w : World) : List V → Hp → VK → Prop := fun vs H Q => ∃ (a : Addr) (ns : List Int), vs = [.ref a] ∧ SqL K H a (ns.map V.int) ∧ ns.length + 1 < scanBound ∧
  ∀ (p : Addr) (ds : List Int), ds.Nodup → (∀ z, z ∈ ds ↔ z ∈ ns) → H p = none → Q (.ref p) (upd H p (SetO w p (fun j => decide (j ∈ ns)) ds.length))
theorem call_setI {X : Cx} (hc : X.calm = true) : CallR X (.type "set") (rSetI X.K X.w) := by
  intro pins s σ H vs us Q I r h
  obtain ⟨a, ns, rfl, hS, hb, q⟩ := h
  obtain ⟨its, rv, pl, hz⟩ := I.list hS
  rw [Vals.ref1 r]
  refine set_of_ints (xs := its.toArray) ns (I.ok.hd hc) pl.isList (Vals.ints rv) hb fun h' tk c R k => ?_
  obtain ⟨ds, nd, m, e⟩ := SetR.list R
  have hn : H s.heap.objs.size = none := I.hok.fresh (Nat.le_refl _)
  refine ⟨.ref s.heap.objs.size, upd H s.heap.objs.size (SetO X.w s.heap.objs.size (fun j => decide (j ∈ ns)) c), I.laid (t' := tk) k (Nat.le_refl _) (setO_new R), rfl, ?_⟩
  have q' := q s.heap.objs.size ds nd (fun z => by rw [m z]; simp) hn
  rwa [e] at q'
end My

set_option Elab.async false
set_option linter.all false
set_option maxRecDepth 100000
/-! My trees: nested tuples (field, less, same, more) with texts at their ends; how they lie in a heap. -/
namespace My
open PySem PySem.Spec PyProof.Rows L2

/-! ### answers of built-ins -/
section
variable {K : PySem.W.Frag}
theorem k_ss : PySem.W.kitOne K (.type "str") (.type "str") = some true := kit_ty (by decide +kernel)
theorem k_ts : PySem.W.kitOne K (.type "tuple") (.type "str") = some false := kit_ty (by decide +kernel)
theorem k_tt : PySem.W.kitOne K (.type "tuple") (.type "tuple") = some true := kit_ty (by decide +kernel)
theorem k_st : PySem.W.kitOne K (.type "str") (.type "tuple") = some false := kit_ty (by decide +kernel)
theorem k_ii : PySem.W.kitOne K (.type "int") (.type "int") = some true := kit_ty (by decide +kernel)
theorem k_ib : PySem.W.kitOne K (.type "int") (.type "bool") = some false := kit_ty (by decide +kernel)
theorem k_ll : PySem.W.kitOne K (.type "list") (.type "list") = some true := kit_ty (by decide +kernel)
theorem k_bb : PySem.W.kitOne K (.type "bool") (.type "bool") = some true := kit_ty (by decide +kernel)
end
theorem small {n : Nat} (h : n ≤ 100000) : n ≤ sizeLine := by rw [sizeLine_eq]; omega
theorem smallLt {n : Nat} (h : n ≤ 100000) : n < sizeLine := by rw [sizeLine_eq]; omega
theorem map_ne {α β : Type} {f : α → β} {l : List α} (h : l ≠ []) : l.map f ≠ [] := fun e => h (List.map_eq_nil_iff.mp e)

/-! ### cutting a reading -/
/-- a test with what holds behind it -/
theorem if_split {tc : TT} {t u : TS} {D : Ends} {σ : L2.St} {H : Hp} (C : Bool → Hp → Prop) (h : ∀ Q : Bool → Hp → Prop, (∀ b H1, C b H1 → Q b H1) → tc σ H Q)
    (ht : ∀ H1, C true H1 → t D σ H1) (hf : ∀ H1, C false H1 → u D σ H1) : tIfS tc t u D σ H := h _ fun b H1 c => by
  cases b
  · exact iteF (hf H1 c)
  · exact iteT (ht H1 c)
/-- a statement that goes on, with what holds behind it -/
theorem st_split {t u : TS} {D : Ends} {σ : L2.St} {H : Hp} (C : L2.St → Hp → Prop) (h : ∀ D' : Ends, (∀ σ' H', C σ' H' → D'.nx σ' H') → t D' σ H) (q : ∀ σ' H', C σ' H' → u D σ' H') : tSeq t u D σ H := h _ q

theorem st_splitR {t u : TS} {D : Ends} {σ : L2.St} {H : Hp} (C : L2.St → Hp → Prop) (h : ∀ D' : Ends, D'.rt = D.rt → (∀ σ' H', C σ' H' → D'.nx σ' H') → t D' σ H) (q : ∀ σ' H', C σ' H' → u D σ' H') : tSeq t u D σ H := h _ rfl q

/-! ### the law's tape: two numbers, not below 0 -/
def Tape (H : Hp) (t : Addr) : Prop := ∃ c k : Int, H t = some (.lst [.int c, .int k]) ∧ 0 ≤ c ∧ 0 ≤ k
theorem Tape.lst {H : Hp} {t : Addr} (h : Tape H t) : ∃ l, H t = some (.lst l) := by
  obtain ⟨c, k, h, _⟩ := h
  exact ⟨_, h⟩
theorem Tape.same {H H' : Hp} {t : Addr} (h : Tape H t) (e : Same H H') : Tape H' t := by
  obtain ⟨c, k, h, q⟩ := h
  exact ⟨c, k, e _ _ h, q⟩
theorem Tape.ne {H : Hp} {t p : Addr} (h : Tape H t) (n : H p = none) : p ≠ t := by
  obtain ⟨l, h⟩ := h.lst
  exact fun e => ne_of_none h n e.symm
theorem Tape.but {H H' : Hp} {t u : Addr} (h : Tape H t) (b : But u H H') (n : t ≠ u) : Tape H' t := by
  obtain ⟨c, k, h, q⟩ := h
  exact ⟨c, k, b _ _ n h, q⟩
theorem Tape.upd {H : Hp} {t D : Addr} {o : HO} (h : Tape H t) (n : D ≠ t) : Tape (L2.upd H D o) t := by
  obtain ⟨c, k, h, q⟩ := h
  exact ⟨c, k, by rw [upd_ne n.symm]; exact h, q⟩
/-- a store to what came later -/
theorem But.later {t D : Addr} {H H' : Hp} {o : HO} (b : But t H H') (n : H D = none) : But t H (L2.upd H' D o) := fun c u ne q => by rw [upd_ne (ne_of_none q n)]; exact b c u ne q
theorem _root_.L2.Same.later {D : Addr} {H H' : Hp} {o : HO} (b : Same H H') (n : H D = none) : Same H (L2.upd H' D o) := fun c u q => by rw [upd_ne (ne_of_none q n)]; exact b c u q
theorem But.free {t D : Addr} {H H' : Hp} (b : But t H H') (n : H' D = none) (ne : D ≠ t) : H D = none := by
  cases q : H D with
  | none => rfl
  | some o => rw [b D o ne q] at n; cases n
/-! ### rules within a comprehension: the written part said outright -/
section
variable {X : Cx} {K : PySem.W.Frag}
theorem ix_listK (h : X.K = K) : IxR X (rIxL K) := h ▸ ix_list
theorem ix_tupK (h : X.K = K) : IxR X (rIxT K) := h ▸ ix_tup
theorem ix_seqK (h : X.K = K) : IxR X (rIx K) := h ▸ ix_seq
theorem isiK (h : X.K = K) : CallR X (.builtin "isinstance") (rIsi K) := h ▸ call_isi
def rLen (K : PySem.W.Frag) : List V → Hp → VK → Prop := fun xs H Q => ∃ p ys, xs = [.ref p] ∧ (SqL K H p ys ∨ SqT K H p ys) ∧ Q (.int ys.length) H
theorem lenK (h : X.K = K) : CallR X (.builtin "len") (rLen K) := h ▸ call_len_seq
def rListOf (K : PySem.W.Frag) : List V → Hp → VK → Prop := fun xs H Q => ∃ p ys, xs = [.ref p] ∧ (SqL K H p ys ∨ SqT K H p ys) ∧ ∀ l, H l = none → Q (.ref l) (upd H l (.lst ys))
theorem listOfK (h : X.K = K) : CallR X (.type "list") (rListOf K) := h ▸ call_list_of
def rTupleOf (K : PySem.W.Frag) : List V → Hp → VK → Prop := fun xs H Q => ∃ p ys, xs = [.ref p] ∧ ((SqL K H p ys ∧ ∀ l, H l = none → Q (.ref l) (upd H l (.tup ys))) ∨ (SqT K H p ys ∧ Q (.ref p) H))
theorem tupleOfK (h : X.K = K) : CallR X (.type "tuple") (rTupleOf K) := h ▸ call_tuple_of
theorem in_seqK (h : X.K = K) : OpR X (compareOp .In) (rIn K false) := h ▸ op_in_seq
theorem notIn_seqK (h : X.K = K) : OpR X (compareOp .NotIn) (rIn K true) := h ▸ op_notIn_seq
theorem sl_listK (h : X.K = K) : SlR X (rSlL K) := h ▸ sl_list
theorem sl_tupAK (h : X.K = K) : SlR X (rSlA K) := h ▸ sl_tupA
theorem catAK (h : X.K = K) : OpR X (binaryOp .Add) (rCatA K) := h ▸ op_catA
theorem eqDK (hu : X.A.units + 64 < cLine) (h : X.K = K) : OpR X (compareOp .Eq) (rEqD K) := h ▸ op_eqD hu
theorem neDK (hu : X.A.units + 64 < cLine) (h : X.K = K) : OpR X (compareOp .NotEq) (rNeD K) := h ▸ op_neD hu
end
def spTake : Sp := fun vs H Q _ => ∃ (t : Addr) (n : Int), vs = [.ref t, .int n] ∧ Tape H t ∧ 0 < n ∧ n < 1073741824 ∧
  ∀ (H' : Hp) (r : Int), But t H H' → Tape H' t → 0 ≤ r → r < n → Q (.int r) H'
def spTape (K : PySem.W.Frag) : Sp := fun vs H Q _ => ∃ (a : Addr) (ns : List Int) (k : Int), vs = [.ref a, .int k] ∧ SqL K H a (ns.map V.int) ∧ 0 ≤ k ∧
  ∀ (t : Addr) (c : Int), H t = none → 0 ≤ c → Q (.ref t) (upd H t (.lst [.int c, .int 0]))
theorem tape_new {H : Hp} {t : Addr} {c : Int} (h : 0 ≤ c) : Tape (upd H t (.lst [.int c, .int 0])) t := ⟨c, 0, upd_same, h, Int.le_refl 0⟩

/-! ### trees -/
inductive Tr where
  | leaf (s : Str)
  | ask (f : Int) (a b c : Tr)
  deriving DecidableEq
namespace Tr
def depth : Tr → Nat
  | leaf _ => 0
  | ask _ a b c => max a.depth (max b.depth c.depth) + 1
def asks : Tr → Nat
  | leaf _ => 0
  | ask _ a b c => a.asks + b.asks + c.asks + 1
def ends : Tr → List Str
  | leaf s => [s]
  | ask _ a b c => a.ends ++ b.ends ++ c.ends
def fields : Tr → List Int
  | leaf _ => []
  | ask f a b c => [f] ++ a.fields ++ b.fields ++ c.fields
def pick (x : Int) (a b c : Tr) : Tr := if x = -1 then a else if x = 0 then b else c
/-- the sign of a field in a row -/
def sgn (rs : List Int) (f : Int) : Int := rs.getD f.toNat 0
def follow (rs : List Int) : Tr → Str
  | leaf s => s
  | ask f a b c => if sgn rs f = -1 then a.follow rs else if sgn rs f = 0 then b.follow rs else c.follow rs
/-- every asked field lies in 0 .. n-1 -/
def Below (n : Int) : Tr → Prop
  | leaf _ => True
  | ask f a b c => 0 ≤ f ∧ f < n ∧ a.Below n ∧ b.Below n ∧ c.Below n
/-- every end is one of the two words -/
def Two : Tr → Prop
  | leaf s => s = "older" ∨ s = "newer"
  | ask _ a b c => a.Two ∧ b.Two ∧ c.Two
theorem ends_len : ∀ t : Tr, t.ends.length = 2 * t.asks + 1
  | leaf _ => rfl
  | ask f a b c => by
    have h1 := ends_len a; have h2 := ends_len b; have h3 := ends_len c
    simp only [ends, asks, List.length_append]; omega
theorem fields_len : ∀ t : Tr, t.fields.length = t.asks
  | leaf _ => rfl
  | ask f a b c => by
    have h1 := fields_len a; have h2 := fields_len b; have h3 := fields_len c
    simp only [fields, asks, List.length_append, List.length_cons, List.length_nil]; omega
theorem ends_ne (t : Tr) : t.ends ≠ [] := fun e => by
  have h := ends_len t
  rw [e, List.length_nil] at h
  omega
theorem depth_le : ∀ t : Tr, t.depth ≤ t.asks
  | leaf _ => Nat.le_refl _
  | ask f a b c => by
    have h1 := depth_le a; have h2 := depth_le b; have h3 := depth_le c
    simp only [depth, asks]; omega
theorem below_mem : ∀ {t : Tr} {n : Int}, t.Below n → ∀ z ∈ t.fields, 0 ≤ z ∧ z < n
  | leaf _, _, _, z, h => by cases h
  | ask f a b c, n, ⟨h1, h2, h3, h4, h5⟩, z, h => by
    simp only [fields, List.mem_append, List.mem_singleton] at h
    rcases h with ((h | h) | h) | h
    · subst h; exact ⟨h1, h2⟩
    · exact below_mem h3 z h
    · exact below_mem h4 z h
    · exact below_mem h5 z h
theorem Below.mono : ∀ {t : Tr} {n m : Int}, t.Below n → n ≤ m → t.Below m
  | leaf _, _, _, _, _ => trivial
  | ask f a b c, n, m, ⟨h1, h2, h3, h4, h5⟩, h => ⟨h1, by omega, h3.mono h, h4.mono h, h5.mono h⟩
def clash (w : Str) : Tr → Tr
  | leaf s => leaf (if s = w then "clash" else s)
  | ask f a b c => ask f (a.clash w) (b.clash w) (c.clash w)
theorem clash_depth (w : Str) : ∀ t : Tr, (t.clash w).depth = t.depth
  | leaf s => rfl
  | ask f a b c => by simp only [clash, depth, clash_depth w a, clash_depth w b, clash_depth w c]
theorem clash_asks (w : Str) : ∀ t : Tr, (t.clash w).asks = t.asks
  | leaf s => rfl
  | ask f a b c => by simp only [clash, asks, clash_asks w a, clash_asks w b, clash_asks w c]
theorem clash_below (w : Str) {n : Int} : ∀ {t : Tr}, t.Below n → (t.clash w).Below n
  | leaf s, _ => trivial
  | ask f a b c, ⟨h1, h2, h3, h4, h5⟩ => ⟨h1, h2, clash_below w h3, clash_below w h4, clash_below w h5⟩
/-- of a list of trees -/
def endsL : List Tr → List Str
  | [] => []
  | t :: ts => t.ends ++ endsL ts
def fieldsL : List Tr → List Int
  | [] => []
  | t :: ts => t.fields ++ fieldsL ts
def nodesL : List Tr → Nat
  | [] => 0
  | t :: ts => 3 * t.asks + 1 + nodesL ts
theorem fieldsL_app : ∀ a b : List Tr, fieldsL (a ++ b) = fieldsL a ++ fieldsL b
  | [], b => rfl
  | t :: a, b => by rw [List.cons_append, fieldsL, fieldsL, fieldsL_app a b, List.append_assoc]
theorem nodesL_app : ∀ a b : List Tr, nodesL (a ++ b) = nodesL a + nodesL b
  | [], b => by rw [List.nil_append, nodesL, Nat.zero_add]
  | t :: a, b => by rw [List.cons_append, nodesL, nodesL, nodesL_app a b]; omega
theorem nodesL_len : ∀ a : List Tr, a.length ≤ nodesL a
  | [] => Nat.le_refl _
  | t :: a => by have := nodesL_len a; simp only [List.length_cons, nodesL]; omega
end Tr
theorem asc_nodup {l : List Int} (h : l.Pairwise (· < ·)) : l.Nodup := h.imp fun h => by omega
/-- ascending lists with the same members are one -/
theorem asc_same : ∀ {a b : List Int}, a.Pairwise (· < ·) → b.Pairwise (· < ·) → (∀ k, k ∈ a ↔ k ∈ b) → a = b
  | [], [], _, _, _ => rfl
  | [], y :: b, _, _, m => by have := (m y).mpr (List.mem_cons_self ..); cases this
  | x :: a, [], _, _, m => by have := (m x).mp (List.mem_cons_self ..); cases this
  | x :: a, y :: b, ha, hb, m => by
    obtain ⟨h1, h2⟩ := List.pairwise_cons.mp ha
    obtain ⟨k1, k2⟩ := List.pairwise_cons.mp hb
    have e : x = y := by
      rcases List.mem_cons.mp ((m x).mp (List.mem_cons_self ..)) with z | z
      · exact z
      · rcases List.mem_cons.mp ((m y).mpr (List.mem_cons_self ..)) with u | u
        · exact u.symm
        · have := h1 y u; have := k1 x z; omega
    subst e
    rw [asc_same h2 k2 fun k => ?_]
    constructor
    · intro z
      rcases List.mem_cons.mp ((m k).mp (List.mem_cons_of_mem _ z)) with u | u
      · have := h1 k z; omega
      · exact u
    · intro z
      rcases List.mem_cons.mp ((m k).mpr (List.mem_cons_of_mem _ z)) with u | u
      · have := k1 k z; omega
      · exact u
theorem le_nodup_lt : ∀ {l : List Int}, l.Pairwise (· ≤ ·) → l.Nodup → l.Pairwise (· < ·)
  | [], _, _ => .nil
  | x :: l, h, n => by
    obtain ⟨h1, h2⟩ := List.pairwise_cons.mp h
    obtain ⟨n1, n2⟩ := List.nodup_cons.mp n
    refine List.pairwise_cons.mpr ⟨fun y hy => ?_, le_nodup_lt h2 n2⟩
    have a := h1 y hy
    have b : x ≠ y := fun e => n1 (e ▸ hy)
    omega
/-! ### how a tree lies -/
inductive TreeAt (H : Hp) : V → Tr → Prop where
  | leaf (s : Str) : TreeAt H (.str s) (.leaf s)
  | ask {p : Addr} {f : Int} {va vb vc : V} {a b c : Tr} (h : H p = some (.tup [.int f, va, vb, vc])) (ha : TreeAt H va a) (hb : TreeAt H vb b) (hc : TreeAt H vc c) : TreeAt H (.ref p) (.ask f a b c)
theorem TreeAt.keep {H H' : Hp} {v : V} {t : Tr} (k : ∀ p xs, H p = some (.tup xs) → H' p = some (.tup xs)) (h : TreeAt H v t) : TreeAt H' v t := by
  induction h with
  | leaf s => exact .leaf s
  | ask h _ _ _ i1 i2 i3 => exact .ask (k _ _ h) i1 i2 i3
theorem TreeAt.same {H H' : Hp} {v : V} {t : Tr} (h : TreeAt H v t) (e : Same H H') : TreeAt H' v t := h.keep fun p xs q => e p _ q
theorem TreeAt.but {H H' : Hp} {v : V} {t : Tr} {a : Addr} {l : List V} (h : TreeAt H v t) (b : But a H H') (ha : H a = some (.lst l)) : TreeAt H' v t := h.keep fun p xs q => b.tup ha q
/-- a tree that is an ask is a tuple -/
theorem TreeAt.inv {H : Hp} {v : V} {f : Int} {a b c : Tr} (h : TreeAt H v (.ask f a b c)) : ∃ p va vb vc, v = .ref p ∧ H p = some (.tup [.int f, va, vb, vc]) ∧ TreeAt H va a ∧ TreeAt H vb b ∧ TreeAt H vc c := by
  cases h with
  | ask h ha hb hc => exact ⟨_, _, _, _, rfl, h, ha, hb, hc⟩
theorem TreeAt.invL {H : Hp} {v : V} {s : Str} (h : TreeAt H v (.leaf s)) : v = .str s := by
  cases h; rfl
theorem TreeAt.tape {H H' : Hp} {v : V} {x : Tr} {t : Addr} (h : TreeAt H v x) (b : But t H H') (ha : Tape H t) : TreeAt H' v x := by
  obtain ⟨l, q⟩ := ha.lst
  exact h.but b q
theorem atI_0 (a b c d : V) : atI [a, b, c, d] 0 = some a := rfl
theorem atI_1 (a b c d : V) : atI [a, b, c, d] 1 = some b := rfl
theorem atI_2 (a b c d : V) : atI [a, b, c, d] 2 = some c := rfl
theorem atI_3 (a b c d : V) : atI [a, b, c, d] 3 = some d := rfl
theorem sgn_at {rs : List Int} {f : Int} (h0 : 0 ≤ f) (h1 : f < (rs.length : Int)) : atI (rs.map V.int) f = some (.int (Tr.sgn rs f)) := by
  have e : f = ((f.toNat : Nat) : Int) := by omega
  have hk : f.toNat < rs.length := by omega
  have q : atI (rs.map V.int) ((f.toNat : Nat) : Int) = some (.int (rs.getD f.toNat 0)) := atI_nat (by rw [List.getElem?_map, List.getElem?_eq_getElem hk, List.getD_eq_getElem?_getD, List.getElem?_eq_getElem hk]; rfl)
  rw [← e] at q
  exact q
theorem sgn_in {rs : List Int} {f : Int} (h0 : 0 ≤ f) (h1 : f < (rs.length : Int)) : Tr.sgn rs f ∈ rs := by
  have hk : f.toNat < rs.length := by omega
  unfold Tr.sgn
  rw [List.getD_eq_getElem?_getD, List.getElem?_eq_getElem hk]
  exact List.getElem_mem hk
/-- a list of trees -/
abbrev TreesAt (H : Hp) : List V → List Tr → Prop := Paired (TreeAt H)
theorem TreesAt.keep {H H' : Hp} {vs : List V} {ts : List Tr} (k : ∀ p xs, H p = some (.tup xs) → H' p = some (.tup xs)) (h : TreesAt H vs ts) : TreesAt H' vs ts := Paired.mapP h fun _ _ q => q.keep k

theorem upd_tup {H : Hp} {a p : Addr} {l : List V} {o : HO} {xs : List V} (h : H a = some (.lst l)) (e : H p = some (.tup xs)) : upd H a o p = some (.tup xs) := by
  rw [upd_ne (ne_of e h (by intro z; cases z))]; exact e
theorem new_tup {H : Hp} {a p : Addr} {o : HO} {xs : List V} (h : H a = none) (e : H p = some (.tup xs)) : upd H a o p = some (.tup xs) := by
  rw [upd_ne (ne_of_none e h)]; exact e
theorem inV_int (k : Int) (l : List Int) : inV (.int k) (l.map V.int) = decide (k ∈ l) := by
  unfold inV
  rw [List.any_map]
  induction l with
  | nil => rfl
  | cons a l ih =>
    rw [List.any_cons, ih]
    simp only [Function.comp, eqV, List.mem_cons]
    by_cases e : a = k
    · subst e; simp
    · have e2 : ¬ k = a := fun z => e z.symm
      simp [e, e2]
theorem flat_ints (l : List Int) : (l.map V.int).all flatV = true := by
  rw [List.all_map]; exact List.all_eq_true.mpr fun _ _ => rfl
theorem dpInts {K : PySem.W.Frag} {H : Hp} : ∀ l : List Int, DpAll K H (l.map V.int) (l.map PyData.int)
  | [] => .nil
  | x :: l => .cons (.int x) (dpInts l)
theorem canInts : ∀ l : List Int, (PyData.list (l.map PyData.int)).canLay0 = true := fun l => by
  have : ∀ l : List Int, PyData.canLayAll0 (l.map PyData.int) = true := fun l => by
    induction l with
    | nil => rfl
    | cons x l ih => simp only [List.map_cons, PyData.canLayAll0, PyData.canLay0, Bool.true_and]; exact ih
  simp only [PyData.canLay0]
  exact this l
theorem depthInts : ∀ l : List Int, (PyData.list (l.map PyData.int)).depth ≤ 64 := fun l => by
  have : ∀ l : List Int, PyData.depthAll (l.map PyData.int) ≤ 1 := fun l => by
    induction l with
    | nil => simp [PyData.depthAll]
    | cons x l ih => simp only [List.map_cons, PyData.depthAll, PyData.depth]; omega
  have := this l
  simp only [PyData.depth]
  omega
theorem shapedInts (l : List Int) : SeqAt.shaped (PyData.list (l.map PyData.int)) = true := by
  unfold SeqAt.shaped
  rw [canInts l, decide_eq_true (depthInts l)]
  rfl
end My

set_option Elab.async false
set_option linter.all false
set_option maxRecDepth 100000
/-! My classes: methods, properties and makings by name; constants of a module. -/
namespace My
open PySem PySem.Spec PyProof.Rows L2

/-- a method (qual: its qualified name) as the text has it -/
structure DfM (K : PySem.W.Frag) (C : Addr) (m qual : Str) (st : Stmt) (ps : List Str) : Prop where
  ex : ∃ (f : Addr) (fd : FuncData), Fun K m qual st f fd ∧ Binds K fd ps [] ∧ Meth K C m f
structure DfP (K : PySem.W.Frag) (C : Addr) (m qual : Str) (st : Stmt) (ps : List Str) : Prop where
  ex : ∃ (p f : Addr) (fd : FuncData), Fun K m qual st f fd ∧ Binds K fd ps [] ∧ PropOf K C m p f
structure DfI (K : PySem.W.Frag) (mg : Str → Option Value) (x : Str) (C : Addr) (qual : Str) (st : Stmt) (ps : List Str) : Prop where
  ex : ∃ (f : Addr) (fd : FuncData), Fun K "__init__" qual st f fd ∧ Binds K fd ps [] ∧ Mk K C f ∧ mg x = some (.ref C)
structure DnM (P : Program) (w : World) (K : PySem.W.Frag) (mg : Str → Option Value) (base : Heap) (k : Nat) (C : Addr) (m : Str) (sp : Sp) : Prop where
  ex : ∃ (f : Addr) (fd : FuncData) (ps : List Str), FnOk P w K mg base CX0 k f fd ps sp ∧ Meth K C m f ∧ Binds K fd ps []
structure DnP (P : Program) (w : World) (K : PySem.W.Frag) (mg : Str → Option Value) (base : Heap) (k : Nat) (C : Addr) (m : Str) (sp : Sp) : Prop where
  ex : ∃ (p f : Addr) (fd : FuncData) (ps : List Str), FnOk P w K mg base CX0 k f fd ps sp ∧ PropOf K C m p f ∧ Binds K fd ps []
structure DnI (P : Program) (w : World) (K : PySem.W.Frag) (mg : Str → Option Value) (base : Heap) (k : Nat) (x : Str) (C : Addr) (sp : Sp) : Prop where
  ex : ∃ (f : Addr) (fd : FuncData) (ps : List Str), FnOk P w K mg base CX0 k f fd ps sp ∧ Mk K C f ∧ mg x = some (.ref C) ∧ Binds K fd ps []
section
variable {P : Program} {w : World} {K : PySem.W.Frag} {mg : Str → Option Value} {base : Heap} {C : Addr} {m qual x : Str} {st : Stmt} {N ps : List Str} {k : Nat} {sp : Sp}
theorem DfM.ok (F : DfM K C m qual st ps) (S : FnScope N ps (defScope st)) (len : ∀ vs H Q E, sp vs H Q E → vs.length = ps.length)
    (body : ∀ (f : Addr) (cdv : Value) (A : Around) (outer : List Env) (s : Shared) (H : Hp) (vs : List V) (Q : VK) (E : XK),
      Room k (A.deeper (envOfC qual (defScope st) s.heap.objs.size f cdv)) → sp vs H Q E →
      ∃ t, PSs (cxOf CX0 P w K mg base N qual (defScope st) f cdv A outer s H E).nox (defBody st) t ∧
        t { nx := fun _ H' => Q .non H', rt := Q } (start N vs) H) : DnM P w K mg base (k + 1) C m sp := by
  obtain ⟨f, fd, F, b, m⟩ := F.ex
  exact ⟨f, fd, ps, F.ok S len (body f), m, b⟩
theorem DfP.ok (F : DfP K C m qual st ps) (S : FnScope N ps (defScope st)) (len : ∀ vs H Q E, sp vs H Q E → vs.length = ps.length)
    (body : ∀ (f : Addr) (cdv : Value) (A : Around) (outer : List Env) (s : Shared) (H : Hp) (vs : List V) (Q : VK) (E : XK),
      Room k (A.deeper (envOfC qual (defScope st) s.heap.objs.size f cdv)) → sp vs H Q E →
      ∃ t, PSs (cxOf CX0 P w K mg base N qual (defScope st) f cdv A outer s H E).nox (defBody st) t ∧
        t { nx := fun _ H' => Q .non H', rt := Q } (start N vs) H) : DnP P w K mg base (k + 1) C m sp := by
  obtain ⟨p, f, fd, F, b, m⟩ := F.ex
  exact ⟨p, f, fd, ps, F.ok S len (body f), m, b⟩
theorem DfI.ok (F : DfI K mg x C qual st ps) (S : FnScope N ps (defScope st)) (len : ∀ vs H Q E, sp vs H Q E → vs.length = ps.length)
    (body : ∀ (f : Addr) (cdv : Value) (A : Around) (outer : List Env) (s : Shared) (H : Hp) (vs : List V) (Q : VK) (E : XK),
      Room k (A.deeper (envOfC qual (defScope st) s.heap.objs.size f cdv)) → sp vs H Q E →
      ∃ t, PSs (cxOf CX0 P w K mg base N qual (defScope st) f cdv A outer s H E).nox (defBody st) t ∧
        t { nx := fun _ H' => Q .non H', rt := Q } (start N vs) H) : DnI P w K mg base (k + 1) x C sp := by
  obtain ⟨f, fd, F, b, m, g⟩ := F.ex
  exact ⟨f, fd, ps, F.ok S len (body f), m, g, b⟩
end
section
variable {X : Cx} {k : Nat} {x m : Str} {C : Addr} {sp : Sp} {o e : Expr} {es : List Expr} {ta : TE} {t : TA} {p pos apos : Pos}
theorem pe_callM {pl : Sem Bool} (D : DnM X.prog X.w X.K X.mg X.base k C m sp) (c : Cls X.K C) (hr : Room k X.A) (he : PE X o ta) (ha : PA X (e :: es) t)
    (h1 : starEach (e :: es) X.env = (false, eval e X.env) :: starEach es X.env := by rfl) (h2 : (backTo pos (starEach es X.env)).any (·.1) = false := by rfl)
    (h3 : eval (.Call (.Attribute o m apos) (e :: es) [] pos) X.env = (do
      let ov ← eval o X.env; standAt apos.atName; let (f, first) ← holding [ov] (getMethod ov m pl)
      callWith pos f first (backTo pos (starEach (e :: es) X.env)) (backToKw pos (keywordEach [] X.env))) := by rfl) :
    PE X (.Call (.Attribute o m apos) (e :: es) [] pos) (tMeth C m sp [] E0 ta t) := by
  obtain ⟨f, fd, ps, F, q, b⟩ := D.ex
  exact pe_meth he c q F hr b .nil pass0 ha h1 h2 h3
theorem pe_callM0 {pl : Sem Bool} (D : DnM X.prog X.w X.K X.mg X.base k C m sp) (c : Cls X.K C) (hr : Room k X.A) (he : PE X o ta)
    (h3 : eval (.Call (.Attribute o m apos) [] [] pos) X.env = (do
      let ov ← eval o X.env; standAt apos.atName; let (f, first) ← holding [ov] (getMethod ov m pl)
      callWith pos f first (backTo pos (starEach [] X.env)) (backToKw pos (keywordEach [] X.env))) := by rfl) :
    PE X (.Call (.Attribute o m apos) [] [] pos) (tMeth C m sp [] E0 ta tNil) := by
  obtain ⟨f, fd, ps, F, q, b⟩ := D.ex
  exact pe_meth0 he c q F hr b .nil pass0 h3
theorem pe_propD (D : DnP X.prog X.w X.K X.mg X.base k C m sp) (c : Cls X.K C) (hr : Room (k + 1) X.A) (he : PE X o ta) (h1 : attributeBase o m X.env (eval o X.env) = eval o X.env) :
    PE X (.Attribute o m pos) (tProp C sp [] E0 ta) := by
  obtain ⟨p, f, fd, ps, F, q, b⟩ := D.ex
  exact pe_prop he c q F hr b .nil pass0 h1
theorem pe_makeD (D : DnI X.prog X.w X.K X.mg X.base k x C sp) (hr : Room (k + 1) X.A) (hg : Gl X x) (ha : PA X (e :: es) t) (hdb : (x == ("__debug__" : Str)) = false := by decide)
    (h1 : starEach (e :: es) X.env = (false, eval e X.env) :: starEach es X.env := by rfl) (h2 : (backTo pos (starEach es X.env)).any (·.1) = false := by rfl) :
    PE X (.Call (.Name x p) (e :: es) [] pos) (tMake C sp [] E0 t) := by
  obtain ⟨f, fd, ps, F, M, g, b⟩ := D.ex
  exact pe_make M F hr hg g b .nil pass0 ha hdb h1 h2
/-- a number of the module -/
theorem pe_globI {i : Int} (hg : Gl X x) (h : ∃ t, X.mg x = some (.int i t)) (hd : (x == ("__debug__" : Str)) = false := by decide) : PE X (.Name x pos) (tC (.int i)) := by
  obtain ⟨t, h⟩ := h
  exact pe_glob hg h ⟨_, rfl⟩ hd
theorem pe_globS {i : Str} (hg : Gl X x) (h : ∃ t, X.mg x = some (.str i t)) (hd : (x == ("__debug__" : Str)) = false := by decide) : PE X (.Name x pos) (tC (.str i)) := by
  obtain ⟨t, h⟩ := h
  exact pe_glob hg h ⟨_, rfl⟩ hd
theorem fldK {K : PySem.W.Frag} {f : Str} (h : X.K = K) (he : PE X e ta) (hb : attributeBase e f X.env (eval e X.env) = eval e X.env) : PE X (.Attribute e f pos) (tFld K ta f) := h ▸ pe_fld he hb
theorem ix_kdictK {K : PySem.W.Frag} {w : World} (h : X.K = K) (h2 : X.w = w) : IxR X (rIxD K w) := h ▸ h2 ▸ ix_kdict
theorem pi_listK {K : PySem.W.Frag} {tg : Expr} (h : X.K = K) (he : PE X e ta) : PI X tg e (iList K ta) := h ▸ pi_list he
theorem pi_tupK {K : PySem.W.Frag} {tg : Expr} (h : X.K = K) (he : PE X e ta) : PI X tg e (iTup K ta) := h ▸ pi_tup he
end
end My

set_option Elab.async false
set_option linter.all false
set_option maxRecDepth 100000
/-! My walks over what is a list or a tuple: for x in xs, for i, x in enumerate(xs). -/
namespace My
open PySem PySem.Spec PyProof.Rows L2

set_option maxHeartbeats 1000000 in
theorem meets_enum_newB {v : Value} {o : Obj} {H : Heap → Prop} (B : Begins v o H) :
    Meets (Builtin.«enumerate.__new__» ⟨[.type "enumerate", v], []⟩) (fun _ R s => H s.heap ∧
      R (.ok (.ret (.ref (s.heap.push o).objs.size))) { s with heap := (s.heap.push o).push { cls := .type "enumerate", data := .fields #[.none, .bool false, .ref s.heap.objs.size, rawInt 0, .none, .none] } }) :=
  .of_wp fun prog w A R s h => by
    obtain ⟨hp, g, d, tk, os⟩ := s; obtain ⟨h1, h⟩ := h
    have hsub := sub_enumerate
    have q1 : ∀ {A' : Around} {E : Value → Shared → Prop} {Q : Value → Shared → Prop}, Q (.ref hp.objs.size) ⟨hp.push o, g, d, tk, os⟩ → wpAny (model prog w) A' (pyIter v) Q E ⟨hp, g, d, tk, os⟩ :=
      fun q => B.iter prog w _ _ ⟨hp, g, d, tk, os⟩ _ h1 q
    wp_walk using q1
    refine wpAny_stack_any fun st => wpAny_pure ?_
    split
    · rename_i c _ _ _ _ _
      cases (c == Value.type "enumerate")
      · wp_walk using q1
        exact ⟨_, rfl, h⟩
      · wp_walk using q1
        exact ⟨_, rfl, h⟩
    · wp_walk using q1
      exact ⟨_, rfl, h⟩
theorem enum_begins1 {prog : Program} {w : World} {A : Around} {E : Value → Shared → Prop} {s : Shared} {v : Value} {o : Obj} {H : Heap → Prop} {Q : Value → Shared → Prop} (B : Begins v o H) (h1 : H s.heap)
    (h : ∀ h', IsEnum h' (s.heap.objs.size + 1) s.heap.objs.size 0 .none → h'.get? s.heap.objs.size = some o → (∀ b o, s.heap.get? b = some o → h'.get? b = some o) → Q (.ref (s.heap.objs.size + 1)) { s with heap := h' }) :
    wpAny (model prog w) A (call (.type "enumerate") [v]) Q E s := by
  refine callType_new F.called_enumerate (by decide) (F.typeCall_enumerate_1 _) (F.newCall_enumerate_1 _) (fun obj => F.args_object_init_2 obj _) F.entry_enumerate_new (meets_enum_newB B) ⟨h1, ?_⟩
  have hz : (s.heap.push o).objs.size = s.heap.objs.size + 1 := Heap.size_push ..
  show _ ∧ _
  rw [hz]
  have he : IsEnum ((s.heap.push o).push { cls := .type "enumerate", data := .fields #[.none, .bool false, .ref s.heap.objs.size, rawInt 0, .none, .none] }) (s.heap.objs.size + 1) s.heap.objs.size 0 .none := by
    have := Heap.get?_push_size (s.heap.push o) (o := { cls := .type "enumerate", data := .fields #[.none, .bool false, .ref s.heap.objs.size, rawInt 0, .none, .none] }) rfl
    rw [hz] at this; exact this
  exact ⟨⟨_, he, rfl⟩, h _ he (Heap.get?_push_of_some _ (Heap.get?_push_size _ B.free)) fun b o x => Heap.get?_push_of_some _ (Heap.get?_push_of_some _ x)⟩

/-- the tuple at a, each item in a new pair -/
def IteT (K : PySem.W.Frag) (a : Addr) : It :=
  ⟨fun i H => ∃ (xs : List V) (x : V), SqT K H a xs ∧ xs[i]? = some x, fun i H v H' => ∃ T x, v = .ref T ∧ H T = none ∧ H' = upd H T (.tup [.int (i : Nat), x]) ∧ ∀ xs, SqT K H a xs → xs[i]? = some x, fun i H => ∃ xs : List V, SqT K H a xs ∧ xs.length = i⟩
theorem turn_enumT {P : Program} {w : World} {K : PySem.W.Frag} {elts : List Expr} {kk : Nat} {tpos : Pos} (a e it : Addr) :
    Turn P w K (.Tuple elts kk tpos) (IteT K a) [e, it] e (fun i h => (∃ old, IsEnum h e it ((i : Nat) : Int) old) ∧ h.IsTupleIter it a i ∧ e ≠ it) where
  mem := by simp
  obj := fun i h st b hb => by
    obtain ⟨⟨old, he⟩, ⟨o, ho, hc, hd⟩, _⟩ := st
    have e' : b = e ∨ b = it := by simpa using hb
    rcases e' with z | z
    · rw [z]; exact ⟨_, he, fun v q => nomatch q⟩
    · rw [z]; exact ⟨o, ho, fun v q => by rw [hd] at q; cases q⟩
  keep := fun i h h' st k => let ⟨⟨old, he⟩, hi, hne⟩ := st; ⟨⟨old, k e (by simp) _ he⟩, hi.at fun o q => k it (by simp) o q, hne⟩
  item := by
    intro X hP hw hK hc i pins s σ H E I hf st hg
    subst hP hw hK
    obtain ⟨⟨old, he⟩, hit, hne⟩ := st
    obtain ⟨xs, x, hq, hx⟩ := hg
    obtain ⟨its, rv, p, hz⟩ := I.tuple hq
    have p : s.heap.IsTuple a its.toArray := p
    obtain ⟨u, hu, ru⟩ := rv.get hx
    have hel : e < s.heap.objs.size := Heap.lt_size he
    have hil : it < s.heap.objs.size := by obtain ⟨_, q, _⟩ := hit; exact Heap.lt_size q
    have hai : a ≠ it := by
      rintro rfl
      obtain ⟨o, q, c, _⟩ := hit
      obtain ⟨o', q', c', _⟩ := p
      rw [q] at q'
      cases q'
      exact absurd (c.symm.trans c') (by decide)
    have hae : a ≠ e := by
      rintro rfl
      obtain ⟨o', q', c', _⟩ := p
      have he' : s.heap.get? a = some _ := he
      rw [he'] at q'
      cases q'
      exact absurd (show Value.type "enumerate" = Value.type "tuple" from c') (by decide)
    have hil' : i < its.length := by
      have := (List.getElem?_eq_some_iff.mp hu).1
      exact this
    refine wpAny_pyNext_enum_itemD (old := old) (Draws.tuple (prog := X.prog) (w := X.w) (A := X.A.in1) (by rw [show X.A.in1.handled = X.A.handled from rfl]; exact I.ok.hd hc) it a hai its.toArray) he ⟨hit, p⟩ (by simpa using hil') hne (by simp [hne, Ne.symm hae]) fun y h' tk hy ho hit' hT hsz hk => ?_
    have hy : its.toArray[i]? = some y := hy
    obtain rfl : y = u := by rw [show its.toArray[i]? = its[i]? by simp] at hy; rw [hu] at hy; exact (Option.some.inj hy).symm
    refine ⟨_, rfl, wpAny_letOwnedTupleGo_enum (s := { s with heap := h', toks := tk + 1 }) ho fun h'' he' sb => ?_⟩
    have hT2 : h''.get? s.heap.objs.size = some { cls := .type "tuple", data := .seq #[.int i tk, y] } := (sb.2 _ (Nat.ne_of_gt hel)).trans hT
    have new : ObjOk X.prog X.w (upd H s.heap.objs.size (.tup [.int (i : Nat), x])) h'' s.heap.objs.size (.tup [.int (i : Nat), x]) :=
      ⟨by show 2 ≤ sizeLine; decide, [.int i tk, y], .cons ⟨_, rfl⟩ (.cons ru .nil), ⟨_, hT2, rfl, _, rfl⟩⟩
    have I1 : Inv X pins σ (upd H s.heap.objs.size (.tup [.int (i : Nat), x])) { s with heap := h'', toks := tk + 1 } :=
      I.turnedNew (ch := [e, it]) (fun b ob hb q => (sb.2 b (fun z => hb (by simp [z]))).trans (hk b ob (fun z => hb (by simp [z])) (fun z => hb (by simp [z])) q)) hf (Nat.le_refl _) new
    refine ⟨.ref s.heap.objs.size, _, I1, rfl, ⟨_, x, rfl, I.hok.fresh (Nat.le_refl _), rfl, fun ys hy => by rw [I.tuple_inj hy hq]; exact hx⟩, ⟨⟨y, ?_⟩, hit'.1.at fun o q => (sb.2 it (Ne.symm hne)).trans q, hne⟩, fun b hb => ?_⟩
    · have e1 : ((i + 1 : Nat) : Int) = (i : Int) + 1 := by omega
      rw [e1]; exact he'
    · have hb' : b < s.heap.objs.size := by
        have e' : b = e ∨ b = it := by simpa using hb
        rcases e' with z | z
        · rw [z]; exact hel
        · rw [z]; exact hil
      rw [upd_ne (Nat.ne_of_lt hb')]
      exact (hf b hb).1
  done := by
    intro X hP hw hK hc i pins s σ H E I hf st hg
    subst hP hw hK
    obtain ⟨⟨old, he⟩, hit, hne⟩ := st
    obtain ⟨xs, hq, hx⟩ := hg
    obtain ⟨its, rv, p, hz⟩ := I.tuple hq
    have p : s.heap.IsTuple a its.toArray := p
    obtain ⟨f0, f1, f2, f3, f4, f5⟩ := hf it (by simp)
    have hai : a ≠ it := by
      rintro rfl
      obtain ⟨o, q, c, _⟩ := hit
      obtain ⟨o', q', c', _⟩ := p
      rw [q] at q'
      cases q'
      exact absurd (c.symm.trans c') (by decide)
    have hae : a ≠ e := by
      rintro rfl
      obtain ⟨o', q', c', _⟩ := p
      have he' : s.heap.get? a = some _ := he
      rw [he'] at q'
      cases q'
      exact absurd (show Value.type "enumerate" = Value.type "tuple" from c') (by decide)
    have hl := rv.length
    have hn : its.toArray.size = i := by simp; omega
    refine wpAny_pyNext_enum_endD (Draws.tuple (prog := X.prog) (w := X.w) (A := X.A.in1) (by rw [show X.A.in1.handled = X.A.handled from rfl]; exact I.ok.hd hc) it a hai its.toArray) he ⟨by rw [hn]; exact hit, p⟩ fun h' eb => ⟨rfl, I.turned (t' := s.toks) (fun b o hb q => eb b o hb q) f0 f1 f3 f4 f5⟩
  self := fun A i s Q E st h => let ⟨⟨_, he⟩, _⟩ := st; wpAny_pyIter_enum he h

/-! ### what is a list or a tuple -/
def SqX (K : PySem.W.Frag) (H : Hp) (a : Addr) (xs : List V) : Prop := SqL K H a xs ∨ SqT K H a xs
theorem SqX.same {K : PySem.W.Frag} {H H' : Hp} {a : Addr} {xs : List V} (g : Same H H') (h : SqX K H a xs) : SqX K H' a xs := h.imp g.seq g.seqT
def iSq (K : PySem.W.Frag) (tl : TE) : TI := fun σ H R => tl σ H fun x H1 => ∃ a xs, x = .ref a ∧ SqX K H1 a xs ∧ ∀ (J : It) (G : Hp → Prop), Walk J xs.length G (YAt xs) → (∀ H', Same H1 H' → G H') → R J H1
def iEn (K : PySem.W.Frag) (ta : TA) : TI := fun σ H R => ta σ H fun vs H1 => ∃ a xs, vs = [.ref a] ∧ SqX K H1 a xs ∧ ∀ (J : It) (G : Hp → Prop), Walk J xs.length G (YPair (fun i => some (.int (i : Nat))) (fun i => xs[i]?)) → (∀ H', Same H1 H' → G H') → R J H1
section
variable {K : PySem.W.Frag} {a : Addr} {xs : List V}
theorem walk_enumT : Walk (IteT K a) xs.length (fun H => SqT K H a xs) (YPair (fun i => some (.int (i : Nat))) (fun i => xs[i]?)) := by
  refine ⟨fun i _ hi q => ⟨xs, xs[i], q, by simp [hi]⟩, fun _ q => ⟨xs, q, rfl⟩, fun i H v H' _ q y => ?_⟩
  obtain ⟨T, x, h1, h2, h3, h4⟩ := y
  exact ⟨T, .int (i : Nat), x, h1, h2, h3, rfl, h4 xs q⟩
end
section
variable {X : Cx} {tg e : Expr}
theorem pi_sq {tl : TE} (hl : PE X e tl) : PI X tg e (iSq X.K tl) := by
  refine ⟨fun pins s σ H R I h => ?_⟩
  refine thn (hl.run pins s σ H _ I h) fun v s1 ⟨x, H1, I1, r1, q1⟩ => ?_
  obtain ⟨a, xs, ex, hq, q⟩ := q1
  subst ex
  cases r1
  rcases hq with hq | hq
  · obtain ⟨its, rv, p, hz⟩ := I1.list hq
    have q := q (Itl X.K a) _ walk_list fun H' g => g.seq hq
    refine wpAny_pyIter_list p.isList ?_
    refine ⟨s1.heap.objs.size, [s1.heap.objs.size], _, _, H1, rfl, I1.kept (t' := s1.toks) fun b o e => Heap.get?_push_of_some _ e, turn_list a _, ⟨_, Heap.get?_push_size _ rfl, rfl, rfl⟩, fun b hb => ?_, q⟩
    have e : b = s1.heap.objs.size := by simpa using hb
    subst e
    exact I1.fpOk (Nat.le_refl _) (I1.hok.fresh (Nat.le_refl _))
  · obtain ⟨its, rv, p, hz⟩ := I1.tuple hq
    have q := q (Itt X.K a) _ walk_tup fun H' g => g.seqT hq
    refine wpAny_pyIter_tuple (show s1.heap.IsTuple a its.toArray from p) ?_
    refine ⟨s1.heap.objs.size, [s1.heap.objs.size], _, _, H1, rfl, I1.kept (t' := s1.toks) fun b o e => Heap.get?_push_of_some _ e, turn_tuple a _, ⟨_, Heap.get?_push_size _ rfl, rfl, rfl⟩, fun b hb => ?_, q⟩
    have e : b = s1.heap.objs.size := by simpa using hb
    subst e
    exact I1.fpOk (Nat.le_refl _) (I1.hok.fresh (Nat.le_refl _))
theorem pi_en {ta : TA} {p pos tpos : Pos} {elts : List Expr} {kk : Nat} (hg : Gl X "enumerate") (hm : X.mg "enumerate" = none) (ha : PA X [e] ta) (hs : starEach [e] X.env = [(false, eval e X.env)] := by rfl) :
    PI X (.Tuple elts kk tpos) (.Call (.Name "enumerate" p) [e] [] pos) (iEn X.K ta) := by
  refine ⟨fun pins s σ H R I h => ?_⟩
  refine Call_ (ld_blt I hg hm boot_enumerate (PyProof.Rows.callWith_type1 (thn (ha.run pos pins s σ H _ I h) fun us s1 ⟨vs, H1, I1, r1, q1⟩ => ?_) hs rfl))
  obtain ⟨a, xs, ex, hq, q⟩ := q1
  subst ex
  cases r1 with
  | cons r rr =>
    cases rr
    cases r
    have fp : ∀ b ∈ [s1.heap.objs.size + 1, s1.heap.objs.size], FpOk X pins H1 b := fun b hb => by
      have e' : b = s1.heap.objs.size + 1 ∨ b = s1.heap.objs.size := by simpa using hb
      have hle : s1.heap.objs.size ≤ b := by
        rcases e' with z | z
        · rw [z]; exact Nat.le_add_right _ _
        · rw [z]; exact Nat.le_refl _
      exact I1.fpOk hle (I1.hok.fresh hle)
    rcases hq with hq | hq
    · obtain ⟨its, rv, p', hz⟩ := I1.list hq
      have q := q (Ite X.K a) _ walk_enum fun H' g => g.seq hq
      refine call_enumerate_list p'.isList fun h' he hit hsz hk => wpAny_pyIter_enum he ?_
      have I2 : Inv X pins σ H1 { s1 with heap := h' } := I1.kept (t' := s1.toks) hk
      exact ⟨s1.heap.objs.size + 1, [s1.heap.objs.size + 1, s1.heap.objs.size], _, _, H1, rfl, I2, turn_enum a (s1.heap.objs.size + 1) s1.heap.objs.size, ⟨⟨.none, he⟩, hit, Nat.succ_ne_self _⟩, fp, q⟩
    · obtain ⟨its, rv, p', hz⟩ := I1.tuple hq
      have q := q (IteT X.K a) _ walk_enumT fun H' g => g.seqT hq
      refine enum_begins1 (begins_tuple a its.toArray) p' fun h' he ho hk => wpAny_pyIter_enum he ?_
      have I2 : Inv X pins σ H1 { s1 with heap := h' } := I1.kept (t' := s1.toks) hk
      exact ⟨s1.heap.objs.size + 1, [s1.heap.objs.size + 1, s1.heap.objs.size], _, _, H1, rfl, I2, turn_enumT a (s1.heap.objs.size + 1) s1.heap.objs.size, ⟨⟨.none, he⟩, ⟨_, ho, rfl, rfl⟩, Nat.succ_ne_self _⟩, fp, q⟩
end
end My

set_option Elab.async false
set_option linter.all false
set_option maxRecDepth 100000
/-! My forests: parents by field, no way that comes round; the path of a field. -/
namespace My
open PySem PySem.Spec PyProof.Rows L2
def nV (i : Nat) : V := .int (i : Int)
def pV : Option Nat → V
  | none => .non
  | some p => .int (p : Int)
def par (ps : List (Option Nat)) (i : Nat) : Option Nat := (ps[i]?).join
theorem par_lt {ps : List (Option Nat)} {i p : Nat} (h : par ps i = some p) : i < ps.length := by
  unfold par at h
  cases e : ps[i]? with
  | none => rw [e] at h; cases h
  | some x => exact (List.getElem?_eq_some_iff.mp e).1
theorem par_get {ps : List (Option Nat)} {i : Nat} (h : i < ps.length) : ps[i]? = some (par ps i) := by
  unfold par
  rw [List.getElem?_eq_getElem h]
  rfl
theorem par_mem {ps : List (Option Nat)} {i p : Nat} (h : par ps i = some p) : some p ∈ ps := by
  have := par_get (par_lt h)
  rw [h] at this
  exact List.mem_of_getElem? this
theorem mem_par {ps : List (Option Nat)} {p : Nat} (h : some p ∈ ps) : ∃ i, par ps i = some p := by
  obtain ⟨i, hi, e⟩ := List.mem_iff_getElem.mp h
  exact ⟨i, by unfold par; rw [List.getElem?_eq_getElem hi, e]; rfl⟩
theorem par_at {ps : List (Option Nat)} {i : Nat} (h : i < ps.length) : (ps.map pV)[i]? = some (pV (par ps i)) := by
  rw [List.getElem?_map, par_get h]
  rfl
theorem par_set {ps : List (Option Nat)} {j p : Nat} (h : j < ps.length) (i : Nat) : par (ps.set j (some p)) i = if i = j then some p else par ps i := by
  unfold par
  rw [List.getElem?_set]
  by_cases e : j = i
  · subst e; rw [if_pos rfl, if_pos rfl, if_pos h]; rfl
  · rw [if_neg e, if_neg (fun z => e z.symm)]
theorem rgV_nats (n : Nat) : rgV 0 (n : Int) = (List.range n).map nV := by
  unfold rgV
  rw [Int.sub_zero, Int.toNat_natCast]
  refine List.map_congr_left fun x _ => ?_
  show V.int (0 + (x : Int)) = V.int (x : Int)
  rw [Int.zero_add]
theorem eraseIdx_perm {α : Type} : ∀ {l : List α} {i : Nat} (h : i < l.length), (l[i] :: l.eraseIdx i).Perm l
  | [], _, h => by simp at h
  | x :: l, 0, _ => .refl _
  | x :: l, i + 1, h => by
    have h' : i < l.length := by simpa using h
    show (l[i] :: x :: l.eraseIdx i).Perm (x :: l)
    exact (List.Perm.swap x l[i] _).trans ((eraseIdx_perm h').cons x)
theorem eraseIdx_map {α β : Type} (f : α → β) : ∀ (l : List α) (i : Nat), (l.map f).eraseIdx i = (l.eraseIdx i).map f
  | [], _ => rfl
  | x :: l, 0 => rfl
  | x :: l, i + 1 => by
    show f x :: (l.map f).eraseIdx i = f x :: (l.eraseIdx i).map f
    rw [eraseIdx_map f l i]
/-- no way comes round -/
structure Acy (ps : List (Option Nat)) : Prop where
  lt : ∀ {i p : Nat}, par ps i = some p → p < ps.length
  rk : ∃ r : Nat → Nat, (∀ i, i < ps.length → r i < ps.length) ∧ ∀ {i p : Nat}, par ps i = some p → r p < r i
def pathF (ps : List (Option Nat)) : Nat → Nat → List Nat
  | 0, i => [i]
  | k + 1, i => match par ps i with
    | none => [i]
    | some p => pathF ps k p ++ [i]
def path (ps : List (Option Nat)) (i : Nat) : List Nat := pathF ps ps.length i
theorem pathF_eq {ps : List (Option Nat)} {r : Nat → Nat} (hr : ∀ {i p : Nat}, par ps i = some p → r p < r i) : ∀ (k m i : Nat), r i ≤ k → r i ≤ m → pathF ps k i = pathF ps m i
  | 0, 0, i, _, _ => rfl
  | 0, m + 1, i, h, _ => by
    cases e : par ps i with
    | none => simp only [pathF, e]
    | some p => have := hr e; omega
  | k + 1, 0, i, _, h => by
    cases e : par ps i with
    | none => simp only [pathF, e]
    | some p => have := hr e; omega
  | k + 1, m + 1, i, h1, h2 => by
    cases e : par ps i with
    | none => simp only [pathF, e]
    | some p =>
      have := hr e
      simp only [pathF, e]
      rw [pathF_eq hr k m p (by omega) (by omega)]
theorem path_root {ps : List (Option Nat)} {i : Nat} (h : par ps i = none) : path ps i = [i] := by
  unfold path
  cases ps.length with
  | zero => rfl
  | succ k => simp only [pathF, h]
theorem path_step {ps : List (Option Nat)} (A : Acy ps) {i p : Nat} (h : par ps i = some p) : path ps i = path ps p ++ [i] := by
  obtain ⟨r, r1, r2⟩ := A.rk
  have hi := par_lt h
  have hp := A.lt h
  have h1 := r1 i hi
  have h2 := r1 p hp
  have h3 := r2 h
  unfold path
  rw [pathF_eq r2 ps.length (r p + 1 + (ps.length - r p - 1)) i (by omega) (by omega)]
  rw [show r p + 1 + (ps.length - r p - 1) = (ps.length - 1) + 1 by omega]
  simp only [pathF, h]
  rw [pathF_eq r2 (ps.length - 1) ps.length p (by omega) (by omega)]
theorem path_len {ps : List (Option Nat)} (A : Acy ps) {i : Nat} (hi : i < ps.length) : (path ps i).length ≤ ps.length := by
  obtain ⟨r, r1, r2⟩ := A.rk
  have len : ∀ k i, (pathF ps k i).length ≤ k + 1 := fun k => by
    induction k with
    | zero => intro i; exact Nat.le_refl _
    | succ k ih =>
      intro i
      cases e : par ps i with
      | none => simp only [pathF, e, List.length_cons, List.length_nil]; omega
      | some p =>
        have := ih p
        simp only [pathF, e, List.length_append, List.length_cons, List.length_nil]
        omega
  unfold path
  have h1 := r1 i hi
  rw [pathF_eq r2 ps.length (ps.length - 1) i (by omega) (by omega)]
  have := len (ps.length - 1) i
  omega
theorem path_lt {ps : List (Option Nat)} (A : Acy ps) {i : Nat} (hi : i < ps.length) : ∀ j ∈ path ps i, j < ps.length := by
  have key : ∀ k i, i < ps.length → ∀ j ∈ pathF ps k i, j < ps.length := fun k => by
    induction k with
    | zero => intro i hi j hj; rw [List.mem_singleton.mp hj]; exact hi
    | succ k ih =>
      intro i hi j hj
      cases e : par ps i with
      | none => simp only [pathF, e, List.mem_singleton] at hj; rw [hj]; exact hi
      | some p =>
        simp only [pathF, e, List.mem_append, List.mem_singleton] at hj
        rcases hj with hj | hj
        · exact ih p (A.lt e) j hj
        · rw [hj]; exact hi
  exact key _ i hi
theorem path_ne (ps : List (Option Nat)) (i : Nat) : path ps i ≠ [] := by
  unfold path
  cases ps.length with
  | zero => exact List.cons_ne_nil _ _
  | succ k =>
    cases e : par ps i with
    | none => simp [pathF, e]
    | some p => simp [pathF, e]
theorem path_self (ps : List (Option Nat)) (A : Acy ps) (i : Nat) : i ∈ path ps i := by
  cases e : par ps i with
  | none => rw [path_root e]; exact List.mem_singleton.mpr rfl
  | some p => rw [path_step A e]; simp
/-- places in a list without repetitions -/
theorem idx_at {α : Type} [DecidableEq α] : ∀ {ts : List α} {a : Nat} {x : α}, ts.Nodup → ts[a]? = some x → ts.idxOf x = a
  | [], _, _, _, h => by simp at h
  | y :: ts, 0, x, _, h => by simp at h; subst h; exact List.idxOf_cons_self
  | y :: ts, a + 1, x, n, h => by
    obtain ⟨n1, n2⟩ := List.nodup_cons.mp n
    have h : ts[a]? = some x := by simpa using h
    have e : y ≠ x := fun e => n1 (e ▸ List.mem_of_getElem? h)
    rw [List.idxOf_cons, idx_at n2 h, show (y == x) = false from beq_eq_false_iff_ne.mpr e]
    rfl
/-- parents that come earlier in an order of the fields -/
theorem acy_of {ps : List (Option Nat)} {ts : List Nat} (nd : ts.Nodup) (hl : ts.length = ps.length) (hm : ∀ t ∈ ts, t < ps.length) (h : ∀ i p : Nat, par ps i = some p → ∃ a b : Nat, a < b ∧ ts[a]? = some p ∧ ts[b]? = some i) : Acy ps := by
  have full : ∀ i, i < ps.length → i ∈ ts := fun i hi => Classical.byContradiction fun no => by
    have nd' : (i :: ts).Nodup := List.nodup_cons.mpr ⟨no, nd⟩
    have := nodup_small ps.length ((i :: ts).map fun (x : Nat) => (x : Int)) (by
      have inj : ∀ l : List Nat, l.Nodup → (l.map fun (x : Nat) => (x : Int)).Nodup := fun l => by
        induction l with
        | nil => intro _; exact List.nodup_nil
        | cons x l ih =>
          intro n
          obtain ⟨n1, n2⟩ := List.nodup_cons.mp n
          rw [List.map_cons]
          refine List.nodup_cons.mpr ⟨fun z => n1 ?_, ih n2⟩
          obtain ⟨y, hy, e⟩ := List.mem_map.mp z
          have : y = x := by omega
          exact this ▸ hy
      exact inj _ nd') (fun z hz => by
        obtain ⟨y, hy, e⟩ := List.mem_map.mp hz
        have : y < ps.length := by
          rcases List.mem_cons.mp hy with q | q
          · rw [q]; exact hi
          · exact hm y q
        omega)
    rw [List.length_map, List.length_cons] at this
    omega
  refine ⟨fun {i p} e => ?_, fun i => ts.idxOf i, fun i hi => by rw [← hl]; exact List.idxOf_lt_length_of_mem (full i hi), fun {i p} e => ?_⟩
  · obtain ⟨a, b, _, h1, _⟩ := h i p e
    exact hm p (List.mem_of_getElem? h1)
  · obtain ⟨a, b, h0, h1, h2⟩ := h i p e
    show ts.idxOf p < ts.idxOf i
    rw [idx_at nd h1, idx_at nd h2]
    exact h0
theorem inV_par (i : Nat) (ps : List (Option Nat)) : inV (.int (i : Int)) (ps.map pV) = decide (some i ∈ ps) := by
  unfold inV
  rw [List.any_map]
  induction ps with
  | nil => rfl
  | cons a l ih =>
    rw [List.any_cons, ih]
    cases a with
    | none => simp [Function.comp, pV, eqV]
    | some p =>
      by_cases e : p = i
      · subst e; simp [Function.comp, pV, eqV]
      · have e1 : ¬ (p : Int) = (i : Int) := by omega
        have e2 : ¬ i = p := fun z => e z.symm
        simp [Function.comp, pV, eqV, e1, e2]
theorem flat_par (ps : List (Option Nat)) : (ps.map pV).all flatV = true := by
  rw [List.all_map]
  refine List.all_eq_true.mpr fun x _ => ?_
  cases x <;> rfl
theorem inV_nats (i : Nat) (l : List Nat) : inV (.int (i : Int)) (l.map nV) = decide (i ∈ l) := by
  have : l.map nV = (l.map fun (x : Nat) => (x : Int)).map V.int := by rw [List.map_map]; rfl
  rw [this, inV_int]
  have : ((i : Int) ∈ l.map fun (x : Nat) => (x : Int)) ↔ i ∈ l := by
    rw [List.mem_map]
    constructor
    · rintro ⟨y, hy, e⟩
      have : y = i := by omega
      exact this ▸ hy
    · exact fun h => ⟨i, h, rfl⟩
  simp [this]
theorem flat_nats (l : List Nat) : (l.map nV).all flatV = true := by
  rw [List.all_map]; exact List.all_eq_true.mpr fun _ _ => rfl
theorem flat_strs (l : List Str) : (l.map V.str).all flatV = true := by
  rw [List.all_map]; exact List.all_eq_true.mpr fun _ _ => rfl
theorem inV_strs (x : Str) (l : List Str) : inV (.str x) (l.map V.str) = decide (x ∈ l) := by
  unfold inV
  rw [List.any_map]
  induction l with
  | nil => rfl
  | cons a l ih =>
    rw [List.any_cons, ih]
    simp only [Function.comp, eqV, List.mem_cons]
    by_cases e : a = x
    · subst e; simp
    · have e2 : ¬ x = a := fun z => e z.symm
      simp [e, e2]
theorem ix_sq {K : PySem.W.Frag} {a : Addr} {xs : List V} {i : Int} {v : V} {H : Hp} {Q : VK} (h : SqX K H a xs) (e : atI xs i = some v) (q : Q v H) : rIx K (.ref a) (.int i) H Q := by
  rcases h with h | h
  · exact .inl ⟨a, xs, i, v, rfl, rfl, h, e, q⟩
  · exact .inr (.inl ⟨a, xs, i, v, rfl, rfl, h, e, q⟩)
/-- a list or a tuple of the heap -/
def SqH (H : Hp) (a : Addr) (xs : List V) : Prop := H a = some (.lst xs) ∨ H a = some (.tup xs)
theorem SqH.x {K : PySem.W.Frag} {H : Hp} {a : Addr} {xs : List V} (h : SqH H a xs) : SqX K H a xs := h.imp (fun h => SqL.of h) (fun h => SqT.of h)
theorem SqH.same {H H' : Hp} {a : Addr} {xs : List V} (g : Same H H') (h : SqH H a xs) : SqH H' a xs := h.imp (g _ _) (g _ _)
/-- tuple(xs) of a list or a tuple -/
def rTupS : List V → Hp → VK → Prop := fun vs H Q => ∃ p ys, vs = [.ref p] ∧ SqH H p ys ∧ ∀ (q : Addr) (H' : Hp), Same H H' → H' q = some (.tup ys) → Q (.ref q) H'
theorem call_tupS {X : Cx} : CallR X (.type "tuple") rTupS := by
  intro pins s σ H vs us Q I rv h
  obtain ⟨p, ys, e, hs, q⟩ := h
  refine call_tuple_of pins s σ H vs us Q I rv ⟨p, ys, e, ?_⟩
  rcases hs with hs | hs
  · exact .inl ⟨SqL.of hs, fun l nl => q l _ (same_new nl _) upd_same⟩
  · exact .inr ⟨SqT.of hs, q p _ (Same.refl _) hs⟩
/-- a + b of two tuples -/
def rCatS : V → V → Hp → VK → Prop := fun x y H Q => ∃ (a b : Addr) (xs ys : List V), x = .ref a ∧ y = .ref b ∧ H a = some (.tup xs) ∧ H b = some (.tup ys) ∧ xs.length + ys.length ≤ 100000 ∧
  ∀ (z : Addr) (H' : Hp), Same H H' → H' z = some (.tup (xs ++ ys)) → Q (.ref z) H'
theorem op_catS {X : Cx} : OpR X (binaryOp .Add) rCatS := by
  intro pins s σ H x y u v Q I rx ry h
  obtain ⟨a, b, xs, ys, rfl, rfl, ha, hb, hz, q⟩ := h
  refine op_catA pins s σ H _ _ u v Q I rx ry ⟨a, b, xs, ys, rfl, rfl, SqT.of ha, SqT.of hb, small hz, fun e => ?_, fun _ e => ?_, fun _ _ p n => ?_⟩
  · exact q b H (Same.refl _) (by rw [e]; exact hb)
  · exact q a H (Same.refl _) (by rw [e, List.append_nil]; exact ha)
  · exact q p _ (same_new n _) upd_same
/-- [x for x in range(n) if ..] -/
theorem lc_filter {σ : L2.St} {H : Hp} {Q : VK} {wi : TI} {tt : TT} {n i : Nat} (f : Nat → Bool) (hn : n ≤ 50000) (hw : ∀ R : It → Hp → Prop, R (Itr 0 ((n : Nat) : Int).toNat) H → wi σ H R)
    (w1 : ∀ u : V, ((wipe σ [i]).set i (some u))[i]? = some (some u)) (w3 : ∀ u : V, wipe ((wipe σ [i]).set i (some u)) [i] = wipe σ [i])
    (ht : ∀ (k : Nat) (H' : Hp) (R : Bool → Hp → Prop), k < n → Same H H' → (∀ H'', Same H' H'' → R (f k) H'') → tt ((wipe σ [i]).set i (some (nV k))) H' R)
    (q : ∀ (D : Addr) (H' : Hp), Same H H' → H' D = some (.lst (((List.range n).filter f).map nV)) → Q (.ref D) H') : tLc wi (gName i) tt (tVar i) [i] σ H Q := by
  refine hw _ fun D nD => ?_
  refine lc_range (lo := 0) (n := ((n : Nat) : Int).toNat) (fun k H' => H' D = some (.lst (((List.range k).filter f).map nV)) ∧ Same H H') ⟨upd_same, same_new nD _⟩ ?_ ?_
  · rintro k H1 hk ⟨e1, g1⟩
    have hk : k < n := hk
    rw [Int.zero_add]
    refine ⟨w3 _, ?_⟩
    refine ht k H1 _ hk g1 fun H2 g2 => ?_
    have ln : (((List.range k).filter f).map nV).length ≤ k := by
      have := List.length_filter_le f (List.range k)
      rw [List.length_range] at this
      rw [List.length_map]; exact this
    have er : (List.range (k + 1)).filter f = (List.range k).filter f ++ [k].filter f := by rw [List.range_succ, List.filter_append]
    cases e : f k with
    | true =>
      refine iteT ?_
      refine ⟨_, w1 _, _, g2 _ _ e1, smallLt (by omega), ?_, (g1.trans g2).later nD⟩
      rw [upd_same, er, List.filter_cons_of_pos e, List.map_append]
      rfl
    | false =>
      refine iteF ?_
      refine ⟨?_, g1.trans g2⟩
      rw [g2 _ _ e1, er, List.filter_cons_of_neg (by simp [e]), List.filter_nil, List.append_nil]
  · rintro H1 ⟨e1, g1⟩
    exact q D H1 g1 e1
theorem lc_filter_set {u : TS} {D0 : Ends} {σ : L2.St} {H : Hp} {wi : TI} {tt : TT} {n i j : Nat} (f : Nat → Bool) (hn : n ≤ 50000) (hw : ∀ R : It → Hp → Prop, R (Itr 0 ((n : Nat) : Int).toNat) H → wi σ H R)
    (w1 : ∀ u : V, ((wipe σ [i]).set i (some u))[i]? = some (some u)) (w3 : ∀ u : V, wipe ((wipe σ [i]).set i (some u)) [i] = wipe σ [i])
    (ht : ∀ (k : Nat) (H' : Hp) (R : Bool → Hp → Prop), k < n → Same H H' → (∀ H'', Same H' H'' → R (f k) H'') → tt ((wipe σ [i]).set i (some (nV k))) H' R)
    (q : ∀ (D : Addr) (H' : Hp), Same H H' → H' D = some (.lst (((List.range n).filter f).map nV)) → u D0 (σ.set j (some (.ref D))) H') : tSeq (tAsg (tLc wi (gName i) tt (tVar i) [i]) (gName j)) u D0 σ H :=
  lc_filter (Q := fun x H' => u D0 (σ.set j (some x)) H') f hn hw w1 w3 ht q
/-- a forest: parents and kinds -/
structure Fo where
  ps : List (Option Nat)
  ks : List Str
structure Fo.Ok (φ : Fo) : Prop where
  len : φ.ks.length = φ.ps.length
  pos : 1 ≤ φ.ps.length
  most : φ.ps.length ≤ 16
  acy : Acy φ.ps
  four : ∀ k ∈ φ.ks, k = "up" ∨ k = "down" ∨ k = "first" ∨ k = "last"
  leaf : ∀ (i : Nat) (k : Str), φ.ks[i]? = some k → k ≠ "up" → k ≠ "down" → some i ∉ φ.ps
def FoAt (C : Addr) (H : Hp) (a : Addr) (φ : Fo) : Prop := ∃ dx pt kt, H a = some (.ins C dx [("fields", .int (φ.ps.length : Int)), ("parents", .ref pt), ("kinds", .ref kt)]) ∧ H pt = some (.tup (φ.ps.map pV)) ∧ H kt = some (.tup (φ.ks.map V.str))
theorem FoAt.same {C : Addr} {H H' : Hp} {a : Addr} {φ : Fo} (g : Same H H') (h : FoAt C H a φ) : FoAt C H' a φ := by
  obtain ⟨dx, pt, kt, h1, h2, h3⟩ := h
  exact ⟨dx, pt, kt, g _ _ h1, g _ _ h2, g _ _ h3⟩
theorem FoAt.but {C : Addr} {H H' : Hp} {a t : Addr} {φ : Fo} {l : List V} (g : But t H H') (ht : H t = some (.lst l)) (h : FoAt C H a φ) : FoAt C H' a φ := by
  obtain ⟨dx, pt, kt, h1, h2, h3⟩ := h
  exact ⟨dx, pt, kt, g _ _ (ne_of h1 ht (by intro z; cases z)) h1, g.tup ht h2, g.tup ht h3⟩
end My

set_option Elab.async false
set_option linter.all false
set_option maxRecDepth 100000
namespace Law
open PySem PySem.Spec PyProof.Rows L2 My
def topS (i : Nat) : Stmt := PySem.Challenge.pw_fieldrides_k06_paths_and_leaves.main.body.getD i (.Pass ⟨0, 0, 0, 0⟩)

abbrev s_sign : Stmt := topS 5
abbrev N_sign : List Str := ["older", "newer"]
abbrev P_sign : List Str := ["older", "newer"]
theorem sc_sign : FnScope N_sign P_sign (defScope s_sign) := ⟨rfl, rfl, rfl, by decide +kernel, rfl, by decide +kernel, by decide +kernel⟩
abbrev s_signs : Stmt := topS 6
abbrev N_signs : List Str := ["older", "newer", "value", "other"]
abbrev P_signs : List Str := ["older", "newer"]
theorem sc_signs : FnScope N_signs P_signs (defScope s_signs) := ⟨rfl, rfl, rfl, by decide +kernel, rfl, by decide +kernel, by decide +kernel⟩
abbrev s_check_record : Stmt := topS 7
abbrev N_check_record : List Str := ["fields", "record"]
abbrev P_check_record : List Str := ["fields", "record"]
theorem sc_check_record : FnScope N_check_record P_check_record (defScope s_check_record) := ⟨rfl, rfl, rfl, by decide +kernel, rfl, by decide +kernel, by decide +kernel⟩
abbrev s_is_ranked : Stmt := topS 10
abbrev N_is_ranked : List Str := ["kind"]
abbrev P_is_ranked : List Str := ["kind"]
theorem sc_is_ranked : FnScope N_is_ranked P_is_ranked (defScope s_is_ranked) := ⟨rfl, rfl, rfl, by decide +kernel, rfl, by decide +kernel, by decide +kernel⟩
abbrev s_side_by : Stmt := topS 11
abbrev N_side_by : List Str := ["kind", "mark", "less", "more"]
abbrev P_side_by : List Str := ["kind", "mark"]
theorem sc_side_by : FnScope N_side_by P_side_by (defScope s_side_by) := ⟨rfl, rfl, rfl, by decide +kernel, rfl, by decide +kernel, by decide +kernel⟩
abbrev s_way_ends : Stmt := topS 17
abbrev N_way_ends : List Str := ["parents", "field", "_"]
abbrev P_way_ends : List Str := ["parents", "field"]
theorem sc_way_ends : FnScope N_way_ends P_way_ends (defScope s_way_ends) := ⟨rfl, rfl, rfl, by decide +kernel, rfl, by decide +kernel, by decide +kernel⟩
abbrev s_check_forest : Stmt := topS 18
abbrev N_check_forest : List Str := ["parents", "kinds", "fields", "field", "parent", "kind"]
abbrev P_check_forest : List Str := ["parents", "kinds"]
theorem sc_check_forest : FnScope N_check_forest P_check_forest (defScope s_check_forest) := ⟨rfl, rfl, rfl, by decide +kernel, rfl, by decide +kernel, by decide +kernel⟩
abbrev s_first_marked : Stmt := topS 19
abbrev N_first_marked : List Str := ["forest", "field", "row", "step"]
abbrev P_first_marked : List Str := ["forest", "field", "row"]
theorem sc_first_marked : FnScope N_first_marked P_first_marked (defScope s_first_marked) := ⟨rfl, rfl, rfl, by decide +kernel, rfl, by decide +kernel, by decide +kernel⟩
abbrev s_forest_side : Stmt := topS 20
abbrev N_forest_side : List Str := ["forest", "field", "row", "marked"]
abbrev P_forest_side : List Str := ["forest", "field", "row"]
theorem sc_forest_side : FnScope N_forest_side P_forest_side (defScope s_forest_side) := ⟨rfl, rfl, rfl, by decide +kernel, rfl, by decide +kernel, by decide +kernel⟩
abbrev s_turned_forest : Stmt := topS 21
abbrev N_turned_forest : List Str := ["forest", "kind"]
abbrev P_turned_forest : List Str := ["forest"]
theorem sc_turned_forest : FnScope N_turned_forest P_turned_forest (defScope s_turned_forest) := ⟨rfl, rfl, rfl, by decide +kernel, rfl, by decide +kernel, by decide +kernel⟩
abbrev s_mirror_forest : Stmt := topS 22
abbrev N_mirror_forest : List Str := ["forest", "kind"]
abbrev P_mirror_forest : List Str := ["forest"]
theorem sc_mirror_forest : FnScope N_mirror_forest P_mirror_forest (defScope s_mirror_forest) := ⟨rfl, rfl, rfl, by decide +kernel, rfl, by decide +kernel, by decide +kernel⟩
abbrev s__law_tape : Stmt := topS 24
abbrev N__law_tape : List Str := ["_law_script", "_law_k"]
abbrev P__law_tape : List Str := ["_law_script", "_law_k"]
theorem sc__law_tape : FnScope N__law_tape P__law_tape (defScope s__law_tape) := ⟨rfl, rfl, rfl, by decide +kernel, rfl, by decide +kernel, by decide +kernel⟩
abbrev s__law_take : Stmt := topS 25
abbrev N__law_take : List Str := ["_law_tape_here", "_law_size", "_law_cell", "_law_k", "_law_mixed"]
abbrev P__law_take : List Str := ["_law_tape_here", "_law_size"]
theorem sc__law_take : FnScope N__law_take P__law_take (defScope s__law_take) := ⟨rfl, rfl, rfl, by decide +kernel, rfl, by decide +kernel, by decide +kernel⟩
abbrev s__law_turns : Stmt := topS 26
abbrev N__law_turns : List Str := ["_law_tape_here", "_law_n", "_law_left", "_law_turns_here", "_law_k"]
abbrev P__law_turns : List Str := ["_law_tape_here", "_law_n"]
theorem sc__law_turns : FnScope N__law_turns P__law_turns (defScope s__law_turns) := ⟨rfl, rfl, rfl, by decide +kernel, rfl, by decide +kernel, by decide +kernel⟩
abbrev s__law_parents : Stmt := topS 27
abbrev N__law_parents : List Str := ["_law_tape_here", "_law_n", "_law_turns_here", "_law_bend", "_law_parents_here", "_law_k", "_law_pick"]
abbrev P__law_parents : List Str := ["_law_tape_here", "_law_n"]
theorem sc__law_parents : FnScope N__law_parents P__law_parents (defScope s__law_parents) := ⟨rfl, rfl, rfl, by decide +kernel, rfl, by decide +kernel, by decide +kernel⟩
abbrev s__law_kinds : Stmt := topS 28
abbrev N__law_kinds : List Str := ["_law_tape_here", "_law_parents_here", "_law_fair", "_law_kinds_here", "_law_field", "_law_pick"]
abbrev P__law_kinds : List Str := ["_law_tape_here", "_law_parents_here", "_law_fair"]
theorem sc__law_kinds : FnScope N__law_kinds P__law_kinds (defScope s__law_kinds) := ⟨rfl, rfl, rfl, by decide +kernel, rfl, by decide +kernel, by decide +kernel⟩
abbrev s__law_path : Stmt := topS 29
abbrev N__law_path : List Str := ["_law_parents_here", "_law_field", "_law_path_here", "_law_k"]
abbrev P__law_path : List Str := ["_law_parents_here", "_law_field"]
theorem sc__law_path : FnScope N__law_path P__law_path (defScope s__law_path) := ⟨rfl, rfl, rfl, by decide +kernel, rfl, by decide +kernel, by decide +kernel⟩
abbrev s__law_word : Stmt := topS 30
abbrev N__law_word : List Str := ["_law_parents_here", "_law_kinds_here", "_law_field", "_law_place"]
abbrev P__law_word : List Str := ["_law_parents_here", "_law_kinds_here", "_law_field"]
theorem sc__law_word : FnScope N__law_word P__law_word (defScope s__law_word) := ⟨rfl, rfl, rfl, by decide +kernel, rfl, by decide +kernel, by decide +kernel⟩
abbrev s__law_is_integer : Stmt := topS 31
abbrev N__law_is_integer : List Str := ["_law_actual"]
abbrev P__law_is_integer : List Str := ["_law_actual"]
theorem sc__law_is_integer : FnScope N__law_is_integer P__law_is_integer (defScope s__law_is_integer) := ⟨rfl, rfl, rfl, by decide +kernel, rfl, by decide +kernel, by decide +kernel⟩
abbrev s__law_same : Stmt := topS 32
abbrev N__law_same : List Str := ["_law_actual", "_law_expected", "_law_k"]
abbrev P__law_same : List Str := ["_law_actual", "_law_expected"]
theorem sc__law_same : FnScope N__law_same P__law_same (defScope s__law_same) := ⟨rfl, rfl, rfl, by decide +kernel, rfl, by decide +kernel, by decide +kernel⟩
abbrev s__law_texts : Stmt := topS 33
abbrev N__law_texts : List Str := ["_law_actual", "_law_expected", "_law_k"]
abbrev P__law_texts : List Str := ["_law_actual", "_law_expected"]
theorem sc__law_texts : FnScope N__law_texts P__law_texts (defScope s__law_texts) := ⟨rfl, rfl, rfl, by decide +kernel, rfl, by decide +kernel, by decide +kernel⟩
abbrev s__law_same_word : Stmt := topS 34
abbrev N__law_same_word : List Str := ["_law_actual", "_law_expected", "_law_k", "_law_step"]
abbrev P__law_same_word : List Str := ["_law_actual", "_law_expected"]
theorem sc__law_same_word : FnScope N__law_same_word P__law_same_word (defScope s__law_same_word) := ⟨rfl, rfl, rfl, by decide +kernel, rfl, by decide +kernel, by decide +kernel⟩
abbrev s__law_shown : Stmt := topS 35
abbrev N__law_shown : List Str := ["_law_forest", "_law_parents_here", "_law_kinds_here"]
abbrev P__law_shown : List Str := ["_law_forest", "_law_parents_here", "_law_kinds_here"]
theorem sc__law_shown : FnScope N__law_shown P__law_shown (defScope s__law_shown) := ⟨rfl, rfl, rfl, by decide +kernel, rfl, by decide +kernel, by decide +kernel⟩
abbrev s__law_fits : Stmt := topS 36
abbrev N__law_fits : List Str := ["_law_forest", "_law_parents_here", "_law_kinds_here", "_law_n", "_law_roots", "_law_field", "_law_fair", "_law_paths", "_law_other", "_law_under"]
abbrev P__law_fits : List Str := ["_law_forest", "_law_parents_here", "_law_kinds_here"]
theorem sc__law_fits : FnScope N__law_fits P__law_fits (defScope s__law_fits) := ⟨rfl, rfl, rfl, by decide +kernel, rfl, by decide +kernel, by decide +kernel⟩
abbrev s__law_exchanged : Stmt := topS 37
abbrev N__law_exchanged : List Str := ["_law_kinds_here", "_law_one", "_law_other", "_law_kind"]
abbrev P__law_exchanged : List Str := ["_law_kinds_here", "_law_one", "_law_other"]
theorem sc__law_exchanged : FnScope N__law_exchanged P__law_exchanged (defScope s__law_exchanged) := ⟨rfl, rfl, rfl, by decide +kernel, rfl, by decide +kernel, by decide +kernel⟩
abbrev s_law : Stmt := topS 38
abbrev N_law : List Str := ["_law_script", "_law_shapes", "_law_forests", "_law_k", "_law_sizes", "_law_most", "_law_n", "_law_parents_here", "_law_kinds_here", "_law_given", "_law_row"]
abbrev P_law : List Str := ["_law_script"]
theorem sc_law : FnScope N_law P_law (defScope s_law) := ⟨rfl, rfl, rfl, by decide +kernel, rfl, by decide +kernel, by decide +kernel⟩
abbrev s_Forest____init__ : Stmt := inClass (topS 16) 0
abbrev N_Forest____init__ : List Str := ["self", "parents", "kinds"]
abbrev P_Forest____init__ : List Str := ["self", "parents", "kinds"]
theorem sc_Forest____init__ : FnScope N_Forest____init__ P_Forest____init__ (defScope s_Forest____init__) := ⟨rfl, rfl, rfl, by decide +kernel, rfl, by decide +kernel, by decide +kernel⟩
abbrev s_Forest____call__ : Stmt := inClass (topS 16) 1
abbrev N_Forest____call__ : List Str := ["self", "older", "newer", "row", "field"]
abbrev P_Forest____call__ : List Str := ["self", "older", "newer"]
theorem sc_Forest____call__ : FnScope N_Forest____call__ P_Forest____call__ (defScope s_Forest____call__) := ⟨rfl, rfl, rfl, by decide +kernel, rfl, by decide +kernel, by decide +kernel⟩
abbrev s_Forest__roots : Stmt := inClass (topS 16) 2
abbrev N_Forest__roots : List Str := ["self", "field"]
abbrev P_Forest__roots : List Str := ["self"]
theorem sc_Forest__roots : FnScope N_Forest__roots P_Forest__roots (defScope s_Forest__roots) := ⟨rfl, rfl, rfl, by decide +kernel, rfl, by decide +kernel, by decide +kernel⟩
abbrev s_Forest__leaves : Stmt := inClass (topS 16) 3
abbrev N_Forest__leaves : List Str := ["self", "field"]
abbrev P_Forest__leaves : List Str := ["self"]
theorem sc_Forest__leaves : FnScope N_Forest__leaves P_Forest__leaves (defScope s_Forest__leaves) := ⟨rfl, rfl, rfl, by decide +kernel, rfl, by decide +kernel, by decide +kernel⟩
abbrev s_Forest__fair : Stmt := inClass (topS 16) 4
abbrev N_Forest__fair : List Str := ["self"]
abbrev P_Forest__fair : List Str := ["self"]
theorem sc_Forest__fair : FnScope N_Forest__fair P_Forest__fair (defScope s_Forest__fair) := ⟨rfl, rfl, rfl, by decide +kernel, rfl, by decide +kernel, by decide +kernel⟩
abbrev s_Forest__path : Stmt := inClass (topS 16) 5
abbrev N_Forest__path : List Str := ["self", "field", "way"]
abbrev P_Forest__path : List Str := ["self", "field"]
theorem sc_Forest__path : FnScope N_Forest__path P_Forest__path (defScope s_Forest__path) := ⟨rfl, rfl, rfl, by decide +kernel, rfl, by decide +kernel, by decide +kernel⟩
abbrev s_Forest__word : Stmt := inClass (topS 16) 6
abbrev N_Forest__word : List Str := ["self", "field", "step"]
abbrev P_Forest__word : List Str := ["self", "field"]
theorem sc_Forest__word : FnScope N_Forest__word P_Forest__word (defScope s_Forest__word) := ⟨rfl, rfl, rfl, by decide +kernel, rfl, by decide +kernel, by decide +kernel⟩
abbrev s_Forest__children : Stmt := inClass (topS 16) 7
abbrev N_Forest__children : List Str := ["self", "field", "child"]
abbrev P_Forest__children : List Str := ["self", "field"]
theorem sc_Forest__children : FnScope N_Forest__children P_Forest__children (defScope s_Forest__children) := ⟨rfl, rfl, rfl, by decide +kernel, rfl, by decide +kernel, by decide +kernel⟩
abbrev s_Forest__beneath : Stmt := inClass (topS 16) 8
abbrev N_Forest__beneath : List Str := ["self", "field", "other"]
abbrev P_Forest__beneath : List Str := ["self", "field"]
theorem sc_Forest__beneath : FnScope N_Forest__beneath P_Forest__beneath (defScope s_Forest__beneath) := ⟨rfl, rfl, rfl, by decide +kernel, rfl, by decide +kernel, by decide +kernel⟩
structure Bts (mg : Str → Option Value) : Prop where
  abs_ : mg "abs" = none
  bool_ : mg "bool" = none
  enumerate_ : mg "enumerate" = none
  int_ : mg "int" = none
  isinstance_ : mg "isinstance" = none
  len_ : mg "len" = none
  list_ : mg "list" = none
  range_ : mg "range" = none
  str_ : mg "str" = none
  tuple_ : mg "tuple" = none
structure Gcs (K : PySem.W.Frag) (w : World) (mg : Str → Option Value) : Prop where
  MIRRORED_ : ∃ a, mg "MIRRORED" = some (.ref a) ∧ KDct K w a "up" (.str "up") ∧ KDct K w a "down" (.str "down") ∧ KDct K w a "first" (.str "last") ∧ KDct K w a "last" (.str "first")
  MOST_FIELDS_ : ∃ t, mg "MOST_FIELDS" = some (.int 16 t)
  TURNED_ : ∃ a, mg "TURNED" = some (.ref a) ∧ KDct K w a "up" (.str "down") ∧ KDct K w a "down" (.str "up") ∧ KDct K w a "first" (.str "first") ∧ KDct K w a "last" (.str "last")
structure TForest (K : PySem.W.Frag) (mg : Str → Option Value) (C : Addr) : Prop where
  cl : Cls K C
  n_fields : NoAttr K C "fields"
  n_parents : NoAttr K C "parents"
  n_kinds : NoAttr K C "kinds"
  g : mg "Forest" = some (.ref C)
section
variable {P : Program} {w : World} {K : PySem.W.Frag} {mg : Str → Option Value} {base : Heap} {C_Forest : Addr}
theorem dn_tape (B : Bts mg) (F : Df K mg "_law_tape" s__law_tape P__law_tape) : Dn P w K mg base 1 "_law_tape" (spTape K) := by
  refine F.ok sc__law_tape (fun vs H Q E h => ?_) (fun f cdv A outer s H vs Q E hr h => ?_)
  · obtain ⟨a, ns, k, rfl, _⟩ := h; rfl
  obtain ⟨a, ns, k, rfl, hS, hk, q⟩ := h
  refine ⟨_, (pss_cons
        (ps_if (pt_cmpR op_lt (pv 1) (pe_callB call_len_seq rfl B.len_ PySem.boot_len (pa_cons (pv 0) pa_nil)) (nomark _)) (pss_one
          (ps_ret (pe_lst (pa_cons (pe_callB call_abs rfl B.abs_ boot_abs (pa_cons (pe_ix ix_list (pv 0) (pv 1) (fun _ _ => rfl)) pa_nil)) (pa_cons pe_int pa_nil))))) pss_nil)
        (pss_one
        (ps_ret (pe_lst (pa_cons (pv 1) (pa_cons pe_int pa_nil)))))), ?_⟩
  refine ⟨_, rfl, _, rfl, a, _, rfl, .inl hS, _, _, rfl, rfl, _, rfl, ?_⟩
  refine ite2 (fun c => ?_) (fun c => ?_)
  · have c' : k < ((ns.map V.int).length : Int) := of_decide_eq_true c
    rw [List.length_map] at c'
    have hk' : k.toNat < ns.length := by omega
    have e : k = ((k.toNat : Nat) : Int) := by omega
    have hat : atI (ns.map V.int) k = some (.int ns[k.toNat]) := by
      have z : atI (ns.map V.int) ((k.toNat : Nat) : Int) = some (.int ns[k.toNat]) := atI_nat (by rw [List.getElem?_map, List.getElem?_eq_getElem hk']; rfl)
      rw [← e] at z
      exact z
    refine ⟨_, rfl, _, rfl, a, _, k, _, rfl, rfl, hS, hat, _, rfl, small (by show 2 ≤ 100000; decide), fun t n => ?_⟩
    exact q t _ n (by split <;> omega)
  · refine ⟨_, rfl, small (by show 2 ≤ 100000; decide), fun t n => ?_⟩
    exact q t _ n hk

theorem dn_take (B : Bts mg) (F : Df K mg "_law_take" s__law_take P__law_take) : Dn P w K mg base 1 "_law_take" spTake := by
  refine F.ok sc__law_take (fun vs H Q E h => ?_) (fun f cdv A outer s H vs Q E hr h => ?_)
  · obtain ⟨t, n, rfl, _⟩ := h; rfl
  obtain ⟨t, n, rfl, ⟨c, k, ht, hc, hk⟩, n0, n1, q⟩ := h
  refine ⟨_, (pss_cons
        (ps_set (i := 2) sc__law_take.nd rfl (.inl rfl) (pe_ix ix_list (pv 0) pe_int (fun _ _ => rfl)))
        (pss_cons
        (ps_asg (pe_op op_add (pe_ix ix_list (pv 0) pe_int (fun _ _ => rfl)) pe_int) (pg_sub (pv 0) pe_int set_list))
        (pss_cons
        (ps_set (i := 3) sc__law_take.nd rfl (.inl rfl) (pe_ix ix_list (pv 0) pe_int (fun _ _ => rfl)))
        (pss_cons
        (ps_if (pt_cmpR op_ge (pv 2) (pe_op op_pow pe_int pe_int) (nomark _)) (pss_cons
          (ps_asg (pe_op op_fdivN (pv 2) (pv 1)) (pg_sub (pv 0) pe_int set_list))
          (pss_one
          (ps_ret (pe_op op_modN (pe_callTy call_int1 rfl B.int_ boot_int (pa_cons (pv 2) pa_nil)) (pv 1))))) pss_nil)
        (pss_cons
        (ps_set (i := 4) sc__law_take.nd rfl (.inl rfl) (pe_op op_modN (pe_callTy call_int1 rfl B.int_ boot_int (pa_cons (pe_op op_add (pe_op op_add (pv 2) (pe_op op_mul pe_int (pv 3))) pe_int) pa_nil)) pe_int))
        (pss_cons
        (ps_set (i := 4) sc__law_take.nd rfl (.inl rfl) (pe_op op_modN (pe_callTy call_int1 rfl B.int_ boot_int (pa_cons (pe_op op_mul (pv 4) (pe_op op_add (pv 4) pe_int)) pa_nil)) pe_int))
        (pss_cons
        (ps_set (i := 4) sc__law_take.nd rfl (.inl rfl) (pe_op op_modN (pe_callTy call_int1 rfl B.int_ boot_int (pa_cons (pe_op op_add (pe_op op_mul (pv 4) (pe_op op_add (pv 4) pe_int)) (pe_op op_mul pe_int (pv 3))) pa_nil)) pe_int))
        (pss_one
        (ps_ret (pe_op op_modN (pe_callTy call_int1 rfl B.int_ boot_int (pa_cons (pe_op op_fdivN (pv 4) pe_int) pa_nil)) (pv 1))))))))))), ?_⟩
  refine ⟨_, rfl, t, _, _, _, rfl, rfl, SqL.of ht, rfl, ?_⟩
  refine ⟨_, rfl, t, _, _, _, rfl, rfl, SqL.of ht, rfl, _, _, rfl, rfl, ?_⟩
  refine ⟨_, rfl, t, _, _, 1, rfl, rfl, ht, rfl, ?_⟩
  refine ⟨_, rfl, t, _, _, _, rfl, rfl, SqL.of upd_same, rfl, ?_⟩
  refine ⟨_, rfl, _, _, rfl, rfl, ⟨by decide, by decide, by decide⟩, _, _, rfl, rfl, _, rfl, ?_⟩
  refine ite2 (fun c1 => ?_) (fun c1 => ?_)
  · refine ⟨_, rfl, _, rfl, _, _, rfl, rfl, ⟨by omega, by omega⟩, ?_⟩
    refine ⟨_, rfl, t, _, _, 0, rfl, rfl, upd_same, rfl, ?_⟩
    refine ⟨_, rfl, .inl ⟨_, rfl, ?_⟩⟩
    refine ⟨_, rfl, _, _, rfl, rfl, by omega, ?_⟩
    exact q _ _ ((But.upd _).trans (But.upd _)) ⟨_, _, upd_same, Int.fdiv_nonneg hc (by omega), by omega⟩ (Int.fmod_nonneg_of_pos _ n0) (Int.fmod_lt_of_pos _ n0)
  · refine ⟨_, rfl, _, rfl, _, _, rfl, rfl, .inl ⟨by decide, by decide⟩, ?_⟩
    refine ⟨_, _, rfl, rfl, _, _, rfl, rfl, .inl ⟨_, rfl, ?_⟩⟩
    have m0 := Int.fmod_nonneg_of_pos (c + 7919 * (k + 1) + 13) (show (0 : Int) < 2147483647 by decide)
    have m1 := Int.fmod_lt_of_pos (c + 7919 * (k + 1) + 13) (show (0 : Int) < 2147483647 by decide)
    refine ⟨_, _, rfl, rfl, (show (2147483647 : Int) ≠ 0 by decide), ?_⟩
    refine ⟨_, rfl, _, rfl, _, _, rfl, rfl, _, _, rfl, rfl, .inl ⟨by omega, by omega⟩, .inl ⟨_, rfl, ?_⟩⟩
    refine ⟨_, _, rfl, rfl, (show (2147483629 : Int) ≠ 0 by decide), ?_⟩
    generalize (c + 7919 * (k + 1) + 13).fmod 2147483647 = m
    have m0' := Int.fmod_nonneg_of_pos (m * (m + 48271)) (show (0 : Int) < 2147483629 by decide)
    have m1' := Int.fmod_lt_of_pos (m * (m + 48271)) (show (0 : Int) < 2147483629 by decide)
    refine ⟨_, rfl, _, rfl, _, _, rfl, rfl, _, _, rfl, rfl, .inl ⟨by omega, by omega⟩, ?_⟩
    refine ⟨_, rfl, _, _, rfl, rfl, .inl ⟨by decide, by decide⟩, _, _, rfl, rfl, .inl ⟨_, rfl, ?_⟩⟩
    refine ⟨_, _, rfl, rfl, (show (2147483647 : Int) ≠ 0 by decide), ?_⟩
    refine ⟨_, rfl, _, _, rfl, rfl, ⟨by decide, by decide⟩, .inl ⟨_, rfl, ?_⟩⟩
    refine ⟨_, rfl, _, _, rfl, rfl, by omega, ?_⟩
    exact q _ _ (But.upd _) ⟨_, _, upd_same, hc, by omega⟩ (Int.fmod_nonneg_of_pos _ n0) (Int.fmod_lt_of_pos _ n0)


/-- an order of the fields -/
def spTurns : Sp := fun vs H Q _ => ∃ (t : Addr) (n : Nat), vs = [.ref t, .int (n : Int)] ∧ Tape H t ∧ n ≤ 1000 ∧
  ∀ (H' : Hp) (p : Addr) (ts : List Nat), But t H H' → Tape H' t → p ≠ t → H' p = some (.lst (ts.map nV)) → ts.length = n → ts.Nodup → (∀ x ∈ ts, x < n) → Q (.ref p) H'
theorem dn_turns (B : Bts mg) (F : Df K mg "_law_turns" s__law_turns P__law_turns) (D__law_take : Dn P w K mg base 1 "_law_take" spTake) : Dn P w K mg base 2 "_law_turns" spTurns := by
  refine F.ok sc__law_turns (fun vs H Q E h => ?_) (fun fa cdv A outer s H vs Q E hr h => ?_)
  · obtain ⟨t, n, rfl, _⟩ := h; rfl
  obtain ⟨t, n, rfl, hT, hn, q⟩ := h
  refine ⟨_, (pss_cons
        (ps_set (i := 2) sc__law_turns.nd rfl (.inl rfl) (pe_listRg rfl rfl B.list_ (prg_1 rfl B.range_ (pv 1))))
        (pss_cons
        (ps_set (i := 3) sc__law_turns.nd rfl (.inl rfl) (pe_lst pa_nil))
        (pss_cons
        (ps_for PassesOwn.never rfl (pi_range1 rfl B.range_ (pa_cons (pv 1) pa_nil)) (pg_name (i := 4) sc__law_turns.nd rfl (.inl rfl)) (pss_one
          (ps_expr (pe_bm PySem.F.plainAttrs_list PySem.F.slot_list_append PySem.F.type_list_append mt_append (pv 3) (pa_cons (pe_bm PySem.F.plainAttrs_list PySem.F.slot_list_pop PySem.F.type_list_pop mt_popAt (pv 2) (pa_cons (My.pe_callD D__law_take (hr.mono (by omega)) rfl (pa_cons (pv 0) (pa_cons (pe_callB call_len_seq rfl B.len_ PySem.boot_len (pa_cons (pv 2) pa_nil)) pa_nil))) pa_nil)) pa_nil)))))
        (pss_one
        (ps_ret (pv 3)))))), ?_⟩
  refine ⟨_, rfl, _, rfl, ⟨by omega, by omega, by omega, by omega, by omega⟩, fun L nL => ?_⟩
  rw [rgV_nats]
  have gL := same_new nL (.lst ((List.range n).map nV))
  have hLt : L ≠ t := hT.ne nL
  refine ⟨small (by decide), fun D nD => ?_⟩
  have hDt : D ≠ t := (hT.same gL).ne nD
  have hLD : L ≠ D := ne_of_none (o := .lst ((List.range n).map nV)) upd_same nD
  refine ⟨_, rfl, _, rfl, by omega, by omega, ?_⟩
  refine for_range (lo := 0) (n := ((n : Nat) : Int).toNat) (fun i σ H' => ∃ (s4 : Option V) (ts ls : List Nat), σ = [some (.ref t), some (.int (n : Int)), some (.ref L), some (.ref D), s4] ∧ But t H H' ∧ Tape H' t ∧ H' L = some (.lst (ls.map nV)) ∧ H' D = some (.lst (ts.map nV)) ∧
      ts.length = i ∧ ls.length + i = n ∧ (ts ++ ls).Nodup ∧ ∀ x ∈ ts ++ ls, x < n)
    ⟨none, [], List.range n, rfl, (But.of gL).trans (But.new nD _), (hT.same gL).same (same_new nD _), by rw [upd_ne hLD]; exact upd_same, upd_same, rfl, by rw [List.length_range]; rfl, by rw [List.nil_append]; exact List.nodup_range, fun x hx => List.mem_range.mp (by simpa using hx)⟩ ?_ ?_
  · rintro i σ H1 hi ⟨s4, ts, ls, rfl, b1, T1, eL, eD, lt, ll, nd, hm⟩
    have hi : i < n := hi
    refine ⟨_, rfl, .inl ⟨rfl, _, SqL.of eD⟩, _, rfl, .inl ⟨rfl, _, SqL.of eL⟩, _, rfl, _, rfl, L, _, rfl, .inl (SqL.of eL), t, _, rfl, T1, by rw [List.length_map]; omega, by rw [List.length_map]; omega, fun H2 r b2 T2 r0 r1 => ?_⟩
    rw [List.length_map] at r1
    have eL2 := b2 _ _ hLt eL
    have eD2 := b2 _ _ hDt eD
    have hr : r.toNat < ls.length := by omega
    refine ⟨L, _, r, r.toNat, nV ls[r.toNat], rfl, rfl, eL2, by omega, by omega, seqIndex_of r0 (by rw [List.length_map]; omega), by rw [List.getElem?_map, List.getElem?_eq_getElem hr]; rfl, ?_⟩
    have eD3 : upd H2 L (.lst ((ls.map nV).eraseIdx r.toNat)) D = some (.lst (ts.map nV)) := by rw [upd_ne hLD.symm]; exact eD2
    refine ⟨D, _, _, rfl, rfl, eD3, smallLt (by rw [List.length_map]; omega), ?_⟩
    have nL0 : H L = none := nL
    have nD0 : H D = none := gL.free nD
    have pm : (ts ++ [ls[r.toNat]] ++ ls.eraseIdx r.toNat).Perm (ts ++ ls) := by
      rw [List.append_assoc]
      exact List.Perm.append_left ts (eraseIdx_perm hr)
    refine ⟨_, ts ++ [ls[r.toNat]], ls.eraseIdx r.toNat, rfl, ((b1.trans b2).later nL0).later nD0, ((T2.upd hLt).upd hDt), ?_, ?_, ?_, ?_, ?_, ?_⟩
    · rw [upd_ne hLD, upd_same, eraseIdx_map]
    · rw [upd_same, List.map_append]; rfl
    · rw [List.length_append, lt]; rfl
    · rw [List.length_eraseIdx_of_lt hr]; omega
    · exact pm.nodup_iff.mpr nd
    · exact fun x hx => hm x (pm.mem_iff.mp hx)
  · rintro σ H1 ⟨s4, ts, ls, rfl, b1, T1, eL, eD, lt, ll, nd, hm⟩
    have : ls = [] := List.eq_nil_of_length_eq_zero (by have : ((n : Nat) : Int).toNat = n := rfl; omega)
    subst this
    rw [List.append_nil] at nd hm
    exact ⟨_, rfl, q H1 D ts b1 T1 hDt eD lt nd hm⟩

/-- parents, drawn -/
def spParents : Sp := fun vs H Q _ => ∃ (t : Addr) (n : Nat), vs = [.ref t, .int (n : Int)] ∧ Tape H t ∧ n ≤ 1000 ∧
  ∀ (H' : Hp) (p : Addr) (ps : List (Option Nat)), But t H H' → Tape H' t → p ≠ t → H p = none → H' p = some (.lst (ps.map pV)) → ps.length = n → Acy ps → Q (.ref p) H'
theorem dn_parents (B : Bts mg) (F : Df K mg "_law_parents" s__law_parents P__law_parents) (D__law_take : Dn P w K mg base 1 "_law_take" spTake) (D__law_turns : Dn P w K mg base 2 "_law_turns" spTurns) : Dn P w K mg base 3 "_law_parents" spParents := by
  refine F.ok sc__law_parents (fun vs H Q E h => ?_) (fun fa cdv A outer s H vs Q E hr h => ?_)
  · obtain ⟨t, n, rfl, _⟩ := h; rfl
  obtain ⟨t, n, rfl, hT, hn, q⟩ := h
  refine ⟨_, (pss_cons
        (ps_set (i := 2) sc__law_parents.nd rfl (.inl rfl) (My.pe_callD D__law_turns (hr.mono (by omega)) rfl (pa_cons (pv 0) (pa_cons (pv 1) pa_nil))))
        (pss_cons
        (ps_set (i := 3) sc__law_parents.nd rfl (.inl rfl) (My.pe_callD D__law_take (hr.mono (by omega)) rfl (pa_cons (pv 0) (pa_cons pe_int pa_nil))))
        (pss_cons
        (ps_setLc (i := 4) (own := [("_law_k", 5)]) (g := gName 5) (tt := tYes) rfl sc__law_parents.nd rfl rfl (sw_true rfl rfl rfl (by decide +kernel)) (pi_range1 rfl B.range_ (pa_cons (pv 1) pa_nil)) (blkOk_by (own := [("_law_k", 5)]) (N := N__law_parents) (sc := defScope s__law_parents) (by decide +kernel)) (fun _ _ _ _ _ => pg_name (i := 5) sc__law_parents.nd rfl (.inl rfl)) (fun _ _ _ _ _ => pts_nil) (fun _ _ _ _ _ => pe_non))
        (pss_cons
        (ps_for PassesOwn.never rfl (pi_range2 rfl B.range_ (pa_cons pe_int (pa_cons (pv 1) pa_nil))) (pg_name (i := 5) sc__law_parents.nd rfl (.inl rfl)) (pss_cons
          (ps_set (i := 6) sc__law_parents.nd rfl (.inl rfl) (My.pe_callD D__law_take (hr.mono (by omega)) rfl (pa_cons (pv 0) (pa_cons (pe_op op_add (pv 5) pe_int) pa_nil))))
          (pss_cons
          (ps_if (pt_cmpR op_eq (pv 3) pe_int (nomark _)) (pss_one
            (ps_set (i := 6) sc__law_parents.nd rfl (.inl rfl) (pv 5))) pss_nil)
          (pss_cons
          (ps_if (pt_cmpR op_eq (pv 3) pe_int (nomark _)) (pss_one
            (ps_set (i := 6) sc__law_parents.nd rfl (.inl rfl) pe_int)) pss_nil)
          (pss_one
          (ps_if (pt_cmpR op_gt (pv 6) pe_int (nomark _)) (pss_one
            (ps_asg (pe_ix ix_list (pv 2) (pe_op op_sub (pv 6) pe_int) (fun _ _ => rfl)) (pg_sub (pv 4) (pe_ix ix_list (pv 2) (pv 5) (fun _ _ => rfl)) set_list))) pss_nil))))))
        (pss_one
        (ps_ret (pv 4))))))), ?_⟩
  refine ⟨_, rfl, _, rfl, t, n, rfl, hT, hn, fun H1 L ts b1 T1 hLt eL lt nd hm => ?_⟩
  refine ⟨_, rfl, t, 4, rfl, T1, by decide, by decide, fun H2 bd b2 T2 bd0 bd1 => ?_⟩
  have b12 := b1.trans b2
  have eL2 := b2 _ _ hLt eL
  refine ⟨_, rfl, _, rfl, by omega, by omega, fun D nD => ?_⟩
  have hDt : D ≠ t := T2.ne nD
  have hLD : L ≠ D := ne_of_none eL2 nD
  have nD0 : H D = none := b12.free nD hDt
  refine lc_range (lo := 0) (n := ((n : Nat) : Int).toNat) (fun i H' => H' D = some (.lst (List.replicate i V.non)) ∧ Same H2 H') ⟨upd_same, same_new nD _⟩ ?_ ?_
  · rintro i H3 hi ⟨e3, g3⟩
    refine ⟨rfl, ?_⟩
    refine ⟨_, e3, smallLt (by rw [List.length_replicate]; omega), ?_, g3.later nD⟩
    rw [upd_same, List.replicate_succ']
  rintro H3 ⟨e3, g3⟩
  rw [show ((n : Nat) : Int).toNat = n from rfl] at e3
  have e3' : H3 D = some (.lst ((List.replicate n (none : Option Nat)).map pV)) := by rw [e3, List.map_replicate]; rfl
  refine ⟨_, rfl, 1, (n : Int), rfl, ⟨by decide, by decide, by omega, by omega⟩, ?_⟩
  refine for_range (lo := 1) (n := ((n : Int) - 1).toNat) (fun i σ H' => ∃ (s4 s6 : Option V) (ps : List (Option Nat)), σ = [some (.ref t), some (.int (n : Int)), some (.ref L), some (.int bd), some (.ref D), s4, s6] ∧ But t H H' ∧ Tape H' t ∧ H' L = some (.lst (ts.map nV)) ∧ H' D = some (.lst (ps.map pV)) ∧
      ps.length = n ∧ ∀ i p : Nat, par ps i = some p → ∃ a b : Nat, a < b ∧ ts[a]? = some p ∧ ts[b]? = some i)
    ⟨_, _, List.replicate n none, rfl, b12.trans (But.of g3), T2.same g3, g3 _ _ eL2, e3', List.length_replicate, fun i p h => ?_⟩ ?_ ?_
  · unfold par at h
    rw [List.getElem?_replicate] at h
    split at h <;> cases h
  · rintro i σ H4 hi ⟨s4, s6, ps, rfl, b4, T4, eL4, eD4, lp, hp⟩
    have hi : i < ((n : Int) - 1).toNat := hi
    have hin : 1 + i < n := by omega
    refine ⟨_, rfl, _, rfl, _, _, rfl, rfl, t, _, rfl, T4, by omega, by omega, fun H5 r b5 T5 r0 r1 => ?_⟩
    have eL5 := b5 _ _ hLt eL4
    have eD5 := b5 _ _ hDt eD4
    dsimp only [gName]
    refine st_split (t := tIfS _ _ _) (fun σ' H' => ∃ pk : Int, σ' = [some (.ref t), some (.int (n : Int)), some (.ref L), some (.int bd), some (.ref D), some (.int (1 + (i : Int))), some (.int pk)] ∧ H' = H5 ∧ 0 ≤ pk ∧ pk ≤ 1 + (i : Int)) (fun D' hD' => ?_) ?_
    · refine ⟨_, rfl, rfl, _, rfl, ?_⟩
      refine ite2 (fun c => ?_) (fun c => ?_)
      · exact ⟨_, rfl, hD' _ _ ⟨_, rfl, rfl, by omega, by omega⟩⟩
      · exact hD' _ _ ⟨_, rfl, rfl, by omega, by omega⟩
    rintro σ' H' ⟨pk1, rfl, rfl, p10, p11⟩
    refine st_split (t := tIfS _ _ _) (fun σ' H'' => ∃ pk : Int, σ' = [some (.ref t), some (.int (n : Int)), some (.ref L), some (.int bd), some (.ref D), some (.int (1 + (i : Int))), some (.int pk)] ∧ H'' = H' ∧ 0 ≤ pk ∧ pk ≤ 1 + (i : Int)) (fun D' hD' => ?_) ?_
    · refine ⟨_, rfl, rfl, _, rfl, ?_⟩
      refine ite2 (fun c => ?_) (fun c => ?_)
      · exact hD' _ _ ⟨_, rfl, rfl, by omega, by omega⟩
      · exact hD' _ _ ⟨_, rfl, rfl, by omega, by omega⟩
    rintro σ' H'' ⟨pk, rfl, rfl, p0, p1⟩
    refine ⟨_, rfl, _, _, rfl, rfl, _, rfl, ?_⟩
    refine ite2 (fun c => ?_) (fun c => ?_)
    · have c' : 0 < pk := of_decide_eq_true c
      have ha : (pk - 1).toNat < ts.length := by omega
      have hb : 1 + i < ts.length := by omega
      refine ⟨_, rfl, _, rfl, _, _, rfl, rfl, L, _, _, _, rfl, rfl, SqL.of eL5, (show atI (ts.map nV) (pk - 1) = some (nV ts[(pk - 1).toNat]) from ?_), ?_⟩
      · have z : atI (ts.map nV) (((pk - 1).toNat : Nat) : Int) = some (nV ts[(pk - 1).toNat]) := atI_nat (by rw [List.getElem?_map, List.getElem?_eq_getElem ha]; rfl)
        rw [Int.toNat_of_nonneg (by omega)] at z
        exact z
      refine ⟨_, rfl, _, rfl, _, rfl, L, _, _, _, rfl, rfl, SqL.of eL5, (show atI (ts.map nV) (1 + (i : Int)) = some (nV ts[1 + i]) from ?_), ?_⟩
      · have z : atI (ts.map nV) (((1 + i : Nat) : Nat) : Int) = some (nV ts[1 + i]) := atI_nat (by rw [List.getElem?_map, List.getElem?_eq_getElem hb]; rfl)
        rw [show (((1 + i : Nat) : Nat) : Int) = 1 + (i : Int) by omega] at z
        exact z
      have hj : ts[1 + i] < n := hm _ (List.getElem_mem hb)
      refine ⟨D, _, _, ts[1 + i], rfl, rfl, eD5, ?_, ?_⟩
      · show ixN _ _ = _
        unfold ixN
        rw [if_pos (by omega), if_pos (by rw [List.length_map, lp]; omega)]
        rfl
      refine ⟨_, _, ps.set ts[1 + i] (some ts[(pk - 1).toNat]), rfl, (b4.trans b5).later nD0, T5.upd hDt, by rw [upd_ne hLD]; exact eL5, by rw [upd_same, List.map_set]; rfl, by rw [List.length_set]; exact lp, fun x y h => ?_⟩
      rw [par_set (by rw [lp]; exact hj)] at h
      split at h
      · next e =>
        injection h with h
        exact ⟨(pk - 1).toNat, 1 + i, by omega, by rw [List.getElem?_eq_getElem ha, h], by rw [List.getElem?_eq_getElem hb, e]⟩
      · exact hp x y h
    · exact ⟨_, _, ps, rfl, b4.trans b5, T5, eL5, eD5, lp, hp⟩
  · rintro σ H4 ⟨s4, s6, ps, rfl, b4, T4, eL4, eD4, lp, hp⟩
    refine ⟨_, rfl, q H4 D ps b4 T4 hDt nD0 eD4 lp (acy_of nd (by omega) (by rw [lp]; exact hm) hp)⟩

/-- kinds, drawn -/
def KindsOk (ps : List (Option Nat)) (ks : List Str) : Prop := (∀ k ∈ ks, k = "up" ∨ k = "down" ∨ k = "first" ∨ k = "last") ∧ ∀ (i : Nat) (k : Str), ks[i]? = some k → k ≠ "up" → k ≠ "down" → some i ∉ ps
def spKinds : Sp := fun vs H Q _ => ∃ (t a : Addr) (ps : List (Option Nat)) (fair : Bool), vs = [.ref t, .ref a, .bl fair] ∧ Tape H t ∧ H a = some (.lst (ps.map pV)) ∧ a ≠ t ∧ ps.length ≤ 1000 ∧
  ∀ (H' : Hp) (p : Addr) (ks : List Str), But t H H' → Tape H' t → p ≠ t → H p = none → H' p = some (.lst (ks.map V.str)) → ks.length = ps.length → KindsOk ps ks → (fair = true → ∀ k ∈ ks, k = "up" ∨ k = "down") → Q (.ref p) H'
theorem four_words {r : Int} (h0 : 0 ≤ r) (h1 : r < 4) : ∃ s : Str, atI [V.str "up", V.str "down", V.str "first", V.str "last"] r = some (.str s) ∧ (s = "up" ∨ s = "down" ∨ s = "first" ∨ s = "last") ∧ (r < 2 → s = "up" ∨ s = "down") := by
  have h : r = 0 ∨ r = 1 ∨ r = 2 ∨ r = 3 := by omega
  rcases h with h | h | h | h
  · subst h; exact ⟨_, rfl, .inl rfl, fun _ => .inl rfl⟩
  · subst h; exact ⟨_, rfl, .inr (.inl rfl), fun _ => .inr rfl⟩
  · subst h; exact ⟨_, rfl, .inr (.inr (.inl rfl)), fun h => by omega⟩
  · subst h; exact ⟨_, rfl, .inr (.inr (.inr rfl)), fun h => by omega⟩
theorem dn_kinds (B : Bts mg) (F : Df K mg "_law_kinds" s__law_kinds P__law_kinds) (D__law_take : Dn P w K mg base 1 "_law_take" spTake) : Dn P w K mg base 2 "_law_kinds" spKinds := by
  refine F.ok sc__law_kinds (fun vs H Q E h => ?_) (fun fa cdv A outer s H vs Q E hr h => ?_)
  · obtain ⟨t, a, ps, fair, rfl, _⟩ := h; rfl
  obtain ⟨t, a, ps, fair, rfl, hT, ha, hat, hl, q⟩ := h
  refine ⟨_, (pss_cons
        (ps_set (i := 3) sc__law_kinds.nd rfl (.inl rfl) (pe_lst pa_nil))
        (pss_cons
        (ps_for PassesOwn.never rfl (pi_range1 rfl B.range_ (pa_cons (pe_callB call_len_seq rfl B.len_ PySem.boot_len (pa_cons (pv 1) pa_nil)) pa_nil)) (pg_name (i := 4) sc__law_kinds.nd rfl (.inl rfl)) (pss_cons
          (ps_set (i := 5) sc__law_kinds.nd rfl (.inl rfl) (My.pe_callD D__law_take (hr.mono (by omega)) rfl (pa_cons (pv 0) (pa_cons pe_int pa_nil))))
          (pss_cons
          (ps_if (PW.pt (pw_or (pt_val (pv 2)) (pw_or1 (pt_cmpR op_in_seq (pv 4) (pv 1) (by rfl))))) (pss_one
            (ps_set (i := 5) sc__law_kinds.nd rfl (.inl rfl) (pe_op op_modN (pe_callTy call_int1 rfl B.int_ boot_int (pa_cons (pv 5) pa_nil)) pe_int))) pss_nil)
          (pss_one
          (ps_expr (pe_bm PySem.F.plainAttrs_list PySem.F.slot_list_append PySem.F.type_list_append mt_append (pv 3) (pa_cons (pe_ix ix_list (pe_lst (pa_cons pe_str (pa_cons pe_str (pa_cons pe_str (pa_cons pe_str pa_nil))))) (pv 5) (fun _ _ => rfl)) pa_nil)))))))
        (pss_one
        (ps_ret (pv 3))))), ?_⟩
  refine ⟨small (by decide), fun D nD => ?_⟩
  have gD := same_new nD (.lst [])
  have hDt : D ≠ t := hT.ne nD
  refine ⟨_, rfl, a, _, rfl, .inl (SqL.of (gD _ _ ha)), ps.length, by rw [List.length_map], by omega, by omega, ?_⟩
  refine for_range (lo := 0) (n := ((ps.length : Nat) : Int).toNat) (fun i σ H' => ∃ (s4 s5 : Option V) (ks : List Str), σ = [some (.ref t), some (.ref a), some (.bl fair), some (.ref D), s4, s5] ∧ But t H H' ∧ Tape H' t ∧ H' a = some (.lst (ps.map pV)) ∧ H' D = some (.lst (ks.map V.str)) ∧ ks.length = i ∧ KindsOk ps ks ∧
      (fair = true → ∀ k ∈ ks, k = "up" ∨ k = "down"))
    ⟨_, _, [], rfl, But.of gD, hT.same gD, gD _ _ ha, upd_same, rfl, ⟨(fun _ h => nomatch h), fun _ _ h => by simp at h⟩, (fun _ _ h => nomatch h)⟩ ?_ ?_
  · rintro i σ H1 hi ⟨s4, s5, ks, rfl, b1, T1, ea, eD, lk, kk, kf⟩
    have hi : i < ps.length := hi
    rw [Int.zero_add]
    refine ⟨_, rfl, t, 4, rfl, T1, by decide, by decide, fun H2 r b2 T2 r0 r1 => ?_⟩
    have ea2 := b2 _ _ hat ea
    have eD2 := b2 _ _ hDt eD
    dsimp only [gName]
    refine st_split (t := tIfS _ _ _) (fun σ' H' => ∃ pk : Int, σ' = [some (.ref t), some (.ref a), some (.bl fair), some (.ref D), some (.int (i : Int)), some (.int pk)] ∧ H' = H2 ∧ 0 ≤ pk ∧ pk < 4 ∧ (fair = true ∨ some i ∈ ps → pk < 2)) (fun D' hD' => ?_) ?_
    · refine if_split (fun b H1 => H1 = H2 ∧ (b = false → fair = false ∧ some i ∉ ps)) (fun Q' qq => ?_) (fun H1 h => ?_) (fun H1 h => ?_)
      · refine ⟨_, rfl, fair, rfl, ?_⟩
        cases fair with
        | true => exact iteT (qq _ _ ⟨rfl, fun z => nomatch z⟩)
        | false =>
          refine iteF ?_
          refine ⟨_, rfl, _, rfl, a, _, rfl, .inl (SqL.of ea2), rfl, flat_par ps, _, rfl, ?_⟩
          rw [inV_par]
          exact qq _ _ ⟨rfl, fun z => ⟨rfl, of_decide_eq_false z⟩⟩
      · obtain ⟨rfl, _⟩ := h
        have m0 := Int.fmod_nonneg_of_pos r (show (0 : Int) < 2 by decide)
        have m1 := Int.fmod_lt_of_pos r (show (0 : Int) < 2 by decide)
        refine ⟨_, rfl, .inl ⟨_, rfl, ?_⟩⟩
        refine ⟨_, _, rfl, rfl, (show (2 : Int) ≠ 0 by decide), ?_⟩
        exact hD' _ _ ⟨_, rfl, rfl, m0, by omega, fun _ => m1⟩
      · obtain ⟨rfl, h⟩ := h
        obtain ⟨h1, h2⟩ := h rfl
        exact hD' _ _ ⟨_, rfl, rfl, r0, r1, fun z => by rcases z with z | z; · rw [h1] at z; cases z
                                                        · exact absurd z h2⟩
    rintro σ' H' ⟨pk, rfl, rfl, p0, p1, p2⟩
    refine ⟨_, rfl, .inl ⟨rfl, _, SqL.of eD2⟩, small (by show 4 ≤ 100000; decide), fun pl nl => ?_⟩
    have gl := same_new nl (.lst [.str "up", .str "down", .str "first", .str "last"])
    obtain ⟨s, hs, hw, hw2⟩ := four_words p0 p1
    refine ⟨_, rfl, pl, _, pk, _, rfl, rfl, SqL.of upd_same, hs, ?_⟩
    refine ⟨D, _, _, rfl, rfl, gl _ _ eD2, smallLt (by rw [List.length_map]; omega), ?_⟩
    refine ⟨_, _, ks ++ [s], rfl, (b1.trans (b2.trans (But.of gl))).later nD, (T2.same gl).upd hDt, ?_, ?_, ?_, ⟨fun k hk => ?_, fun j k hk n1 n2 => ?_⟩, fun hf k hk => ?_⟩
    · rw [upd_ne (ne_of_none ha nD)]; exact gl _ _ ea2
    · rw [upd_same, List.map_append]; rfl
    · rw [List.length_append, lk]; rfl
    · rcases List.mem_append.mp hk with hk | hk
      · exact kk.1 k hk
      · rw [List.mem_singleton.mp hk]; exact hw
    · by_cases e : j < ks.length
      · rw [List.getElem?_append_left e] at hk
        exact kk.2 j k hk n1 n2
      · rw [List.getElem?_append_right (by omega)] at hk
        have : j - ks.length = 0 := by
          rcases Nat.eq_zero_or_pos (j - ks.length) with z | z
          · exact z
          · rw [List.getElem?_eq_none (by show 1 ≤ j - ks.length; omega)] at hk; cases hk
        rw [this] at hk
        have hk : s = k := by simpa using hk
        have ej : j = i := by omega
        rw [ej]
        intro hin
        rcases hw2 (p2 (.inr hin)) with z | z
        · exact n1 (hk ▸ z)
        · exact n2 (hk ▸ z)
    · rcases List.mem_append.mp hk with hk | hk
      · exact kf hf k hk
      · rw [List.mem_singleton.mp hk]; exact hw2 (p2 (.inl hf))
  · rintro σ H1 ⟨s4, s5, ks, rfl, b1, T1, ea, eD, lk, kk, kf⟩
    exact ⟨_, rfl, q H1 D ks b1 T1 hDt nD eD lk kk kf⟩

/-- the k-th way up -/
def anc (ps : List (Option Nat)) : Nat → Option Nat → Option Nat
  | 0, o => o
  | k + 1, o => match o with
    | none => none
    | some i => anc ps k (par ps i)
theorem anc_lt {ps : List (Option Nat)} (A : Acy ps) : ∀ (k : Nat) {o : Option Nat} {j : Nat}, (∀ i, o = some i → i < ps.length) → anc ps k o = some j → j < ps.length
  | 0, o, j, h, e => h j e
  | k + 1, none, j, h, e => by cases e
  | k + 1, some i, j, h, e => anc_lt A k (fun p hp => A.lt hp) e
theorem anc_succ (ps : List (Option Nat)) : ∀ (k : Nat) (o : Option Nat), anc ps (k + 1) o = match anc ps k o with
    | none => none
    | some j => par ps j
  | 0, none => rfl
  | 0, some i => rfl
  | k + 1, none => rfl
  | k + 1, some i => anc_succ ps k (par ps i)
theorem anc_end {ps : List (Option Nat)} (A : Acy ps) {i : Nat} (hi : i < ps.length) : anc ps ps.length (some i) = none := by
  obtain ⟨r, r1, r2⟩ := A.rk
  have key : ∀ k i, r i < k → anc ps k (some i) = none := fun k => by
    induction k with
    | zero => intro i h; omega
    | succ k ih =>
      intro i h
      show anc ps k (par ps i) = none
      cases e : par ps i with
      | none => cases k <;> rfl
      | some p =>
        have := r2 e
        exact ih p (by omega)
  exact key _ i (r1 i hi)
theorem pV_non (o : Option Nat) : decide (pV o = V.non) = decide (o = none) := by
  cases o with
  | none => rfl
  | some p => exact decide_eq_false (fun z => nomatch z)
def spWay : Sp := fun vs H Q _ => ∃ (a : Addr) (ps : List (Option Nat)) (i : Nat), vs = [.ref a, .int (i : Int)] ∧ SqX K H a (ps.map pV) ∧ Acy ps ∧ i < ps.length ∧ Q (.bl true) H
theorem dn_way (B : Bts mg) (F : Df K mg "way_ends" s_way_ends P_way_ends) : Dn P w K mg base 1 "way_ends" (spWay (K := K)) := by
  refine F.ok sc_way_ends (fun vs H Q E h => ?_) (fun fa cdv A outer s H vs Q E hr h => ?_)
  · obtain ⟨a, ps, i, rfl, _⟩ := h; rfl
  obtain ⟨a, ps, i, rfl, ha, ac, hi, q⟩ := h
  refine ⟨_, (pss_cons
        (ps_for PassesOwn.never rfl (pi_sq (pv 0)) (pg_name (i := 2) sc_way_ends.nd rfl (.inl rfl)) (pss_cons
          (ps_if (pt_cmpR op_isN (pv 1) pe_non (nomark _)) (pss_one
            (ps_ret pe_bl)) pss_nil)
          (pss_one
          (ps_set (i := 1) sc_way_ends.nd rfl (.inl rfl) (pe_ix ix_seq (pv 0) (pv 1) (fun _ _ => rfl))))))
        (pss_one
        (ps_ret (pe_cmpR op_isN (pv 1) pe_non (nomark _))))), ?_⟩
  refine ⟨_, rfl, a, _, rfl, ha, fun J G wk hG => ?_⟩
  rw [List.length_map] at wk
  refine for_it wk (fun k σ H' => H' = H ∧ ∃ s2, σ = [some (.ref a), some (pV (anc ps k (some i))), s2]) ⟨rfl, _, rfl⟩ (fun k σ H' _ ⟨e, _⟩ => by rw [e]; exact hG _ (Same.refl _)) ?_ ?_
  · rintro k x σ H' H'' hk ⟨rfl, s2, rfl⟩ ⟨rfl, hx⟩
    refine ⟨_, rfl, rfl, _, rfl, ?_⟩
    rw [pV_non]
    cases e : anc ps k (some i) with
    | none =>
      refine iteT ?_
      exact q
    | some j =>
      refine iteF ?_
      have hj : j < ps.length := anc_lt ac k (fun i' z => by injection z with z; exact z ▸ hi) e
      refine ⟨_, rfl, _, rfl, ix_sq ha (atI_nat (par_at hj)) ⟨rfl, some x, ?_⟩⟩
      rw [anc_succ, e]
      rfl
  · rintro σ H' ⟨rfl, s2, rfl⟩
    rw [anc_end ac hi]
    exact ⟨_, rfl, rfl, q⟩

def Words (ks : List Str) : Prop := ∀ k ∈ ks, k = "up" ∨ k = "down" ∨ k = "first" ∨ k = "last"
def spRanked : Sp := fun vs H Q _ => ∃ k : Str, vs = [.str k] ∧ Q (.bl (decide (k = "up" ∨ k = "down"))) H
theorem dn_ranked (B : Bts mg) (F : Df K mg "is_ranked" s_is_ranked P_is_ranked) : Dn P w K mg base 1 "is_ranked" spRanked := by
  refine F.ok sc_is_ranked (fun vs H Q E h => ?_) (fun fa cdv A outer s H vs Q E hr h => ?_)
  · obtain ⟨k, rfl, _⟩ := h; rfl
  obtain ⟨k, rfl, q⟩ := h
  refine ⟨_, (pss_one
        (ps_ret (pe_or (pe_cmpR op_eq (pv 0) pe_str (nomark _)) (pe_one (pe_cmpR op_eq (pv 0) pe_str (nomark _)))))), ?_⟩
  refine ⟨_, rfl, rfl, _, rfl, ?_⟩
  refine ite2 (fun c => ?_) (fun c => ?_)
  · have c : k = "up" := by have := of_decide_eq_true c; injection this
    rw [decide_eq_true (.inl c)] at q
    exact q
  · refine ⟨_, rfl, rfl, ?_⟩
    have c : ¬ k = "up" := fun z => c (by rw [z]; exact decide_eq_true rfl)
    have e : decide (V.str k = V.str "down") = decide (k = "up" ∨ k = "down") := by
      by_cases z : k = "down"
      · rw [z, decide_eq_true rfl, decide_eq_true (.inr rfl)]
      · have n : ¬ (k = "up" ∨ k = "down") := fun y => y.elim c z
        rw [decide_eq_false (fun y => z (by injection y)), decide_eq_false n]
    rw [e]
    exact q
/-- what a forest asks is there -/
def spCheck : Sp := fun vs H Q _ => ∃ (a b : Addr) (φ : Fo), vs = [.ref a, .ref b] ∧ SqX K H a (φ.ps.map pV) ∧ SqX K H b (φ.ks.map V.str) ∧ φ.Ok ∧ ∀ H', Same H H' → Q .non H'
theorem dn_check (B : Bts mg) (G : Gcs K w mg) (F : Df K mg "check_forest" s_check_forest P_check_forest) (D_way_ends : Dn P w K mg base 1 "way_ends" (spWay (K := K))) (D_is_ranked : Dn P w K mg base 1 "is_ranked" spRanked) : Dn P w K mg base 2 "check_forest" (spCheck (K := K)) := by
  refine F.ok sc_check_forest (fun vs H Q E h => ?_) (fun fa cdv A outer s H vs Q E hr h => ?_)
  · obtain ⟨a, b, φ, rfl, _⟩ := h; rfl
  obtain ⟨a, b, φ, rfl, ha, hb, ok, q⟩ := h
  refine ⟨_, (pss_cons
        (ps_set (i := 2) sc_check_forest.nd rfl (.inl rfl) (pe_callB call_len_seq rfl B.len_ PySem.boot_len (pa_cons (pv 0) pa_nil)))
        (pss_cons
        (ps_if (PW.pt (pw_or (pt_cmpR op_ne (pv 2) (pe_callB call_len_seq rfl B.len_ PySem.boot_len (pa_cons (pv 1) pa_nil)) (nomark _)) (pw_or (pt_cmpR op_lt (pv 2) pe_int (nomark _)) (pw_or1 (pt_cmpR op_gt (pv 2) (pe_globI rfl G.MOST_FIELDS_) (nomark _)))))) (pss_one
          ps_never) pss_nil)
        (pss_cons
        (ps_for PassesOwn.never rfl (pi_en rfl B.enumerate_ (pa_cons (pv 0) pa_nil)) (pg_tup rfl (pgs_cons (pg_name (i := 3) sc_check_forest.nd rfl (.inl rfl)) (pgs_cons (pg_name (i := 4) sc_check_forest.nd rfl (.inl rfl)) pgs_nil))) (pss_one
          (ps_if (PW.pt (pw_and (pt_cmpR op_notN (pv 4) pe_non (nomark _)) (pw_and1 (PW.pt (pw_or (pt_cmpR op_lt (pv 4) pe_int (nomark _)) (pw_or1 (pt_cmpR op_ge (pv 4) (pv 2) (nomark _)))))))) (pss_one
            ps_never) pss_nil)))
        (pss_cons
        (ps_for PassesOwn.never rfl (pi_range1 rfl B.range_ (pa_cons (pv 2) pa_nil)) (pg_name (i := 3) sc_check_forest.nd rfl (.inl rfl)) (pss_one
          (ps_if (pt_not (pt_val (My.pe_callD D_way_ends (hr.mono (by omega)) rfl (pa_cons (pv 0) (pa_cons (pv 3) pa_nil))))) (pss_one
            ps_never) pss_nil)))
        (pss_one
        (ps_for PassesOwn.never rfl (pi_en rfl B.enumerate_ (pa_cons (pv 1) pa_nil)) (pg_tup rfl (pgs_cons (pg_name (i := 3) sc_check_forest.nd rfl (.inl rfl)) (pgs_cons (pg_name (i := 5) sc_check_forest.nd rfl (.inl rfl)) pgs_nil))) (pss_one
          (ps_if (PW.pt (pw_and (pt_not (pt_val (My.pe_callD D_is_ranked (hr.mono (by omega)) rfl (pa_cons (pv 5) pa_nil)))) (pw_and1 (pt_cmpR op_in_seq (pv 3) (pv 0) (by rfl))))) (pss_one
            ps_never) pss_nil)))))))), ?_⟩
  obtain ⟨len, pos, most, acy, four, leaf⟩ := ok
  have lp : (φ.ps.map pV).length = φ.ps.length := List.length_map ..
  have lk : (φ.ks.map V.str).length = φ.ps.length := (List.length_map ..).trans len
  refine ⟨_, rfl, a, _, rfl, ha, ?_⟩
  rw [lp]
  refine ⟨_, rfl, _, rfl, b, _, rfl, hb, ?_⟩
  rw [lk]
  refine ⟨rfl, _, rfl, ?_⟩
  refine iteNS rfl ?_
  refine ⟨_, rfl, _, _, rfl, rfl, _, rfl, ?_⟩
  refine ite2 (fun c => absurd (of_decide_eq_true c) (by omega)) (fun _ => ?_)
  refine ⟨_, rfl, _, _, rfl, rfl, _, rfl, ?_⟩
  refine ite2 (fun c => absurd (of_decide_eq_true c) (by omega)) (fun _ => ?_)
  refine ⟨_, rfl, a, _, rfl, ha, fun J G wk hG => ?_⟩
  rw [lp] at wk
  refine for_it wk (fun i σ H' => Same H H' ∧ ∃ s3 s4 s5, σ = [some (.ref a), some (.ref b), some (.int (φ.ps.length : Int)), s3, s4, s5]) ⟨Same.refl _, _, _, _, rfl⟩ (fun i σ H' _ ⟨g, _⟩ => hG _ g) ?_ ?_
  · rintro i v σ H' H'' hi ⟨g, s3, s4, s5, rfl⟩ ⟨T, x, y, rfl, nT, rfl, hx, hy⟩
    have gT := g.trans (same_new nT (.tup [x, y]))
    refine ⟨T, _, rfl, SqT.of upd_same, rfl, _, _, rfl, _, _, rfl, rfl, ?_⟩
    obtain rfl : x = .int (i : Nat) := (Option.some.inj hx).symm
    have hy : (φ.ps.map pV)[i]? = some y := hy
    rw [par_at hi] at hy
    obtain rfl := Option.some.inj hy
    cases e : par φ.ps i with
    | none =>
      rw [e] at gT
      refine ⟨_, rfl, rfl, _, rfl, ?_⟩
      refine iteF ?_
      exact ⟨gT, _, _, _, rfl⟩
    | some p =>
      rw [e] at gT
      have hp := acy.lt e
      refine ⟨_, rfl, rfl, _, rfl, ?_⟩
      refine iteT ?_
      refine ⟨_, rfl, (p : Int), 0, rfl, rfl, _, rfl, ?_⟩
      refine ite2 (fun c => absurd (of_decide_eq_true c) (by omega)) (fun _ => ?_)
      refine ⟨_, rfl, _, rfl, (p : Int), _, rfl, rfl, _, rfl, ?_⟩
      refine ite2 (fun c => absurd (of_decide_eq_true c) (by omega)) (fun _ => ?_)
      exact ⟨gT, _, _, _, rfl⟩
  rintro σ H1 ⟨g1, s3, s4, s5, rfl⟩
  refine ⟨_, rfl, _, rfl, by omega, by omega, ?_⟩
  refine for_range (lo := 0) (n := ((φ.ps.length : Nat) : Int).toNat) (fun i σ H' => H' = H1 ∧ ∃ s3 s4 s5, σ = [some (.ref a), some (.ref b), some (.int (φ.ps.length : Int)), s3, s4, s5]) ⟨rfl, _, _, _, rfl⟩ ?_ ?_
  · rintro i σ H' hi ⟨rfl, s3, s4, s5, rfl⟩
    have hi : i < φ.ps.length := hi
    rw [Int.zero_add]
    refine ⟨_, rfl, _, rfl, a, φ.ps, i, rfl, ha.same g1, acy, hi, ?_⟩
    refine ⟨_, rfl, ?_⟩
    refine iteF ?_
    exact ⟨rfl, _, _, _, rfl⟩
  rintro σ H' ⟨rfl, s3, s4, s5, rfl⟩
  refine ⟨_, rfl, b, _, rfl, hb.same g1, fun J2 G2 wk2 hG2 => ?_⟩
  rw [lk] at wk2
  refine for_it wk2 (fun i σ H'' => Same H H'' ∧ Same H' H'' ∧ ∃ s3 s4 s5, σ = [some (.ref a), some (.ref b), some (.int (φ.ps.length : Int)), s3, s4, s5]) ⟨g1, Same.refl _, _, _, _, rfl⟩ (fun i σ H' _ ⟨_, g, _⟩ => hG2 _ g) ?_ ?_
  · rintro i v σ H2 H3 hi ⟨g, g', s3, s4, s5, rfl⟩ ⟨T, x, y, rfl, nT, rfl, hx, hy⟩
    have gT := g.trans (same_new nT (.tup [x, y]))
    have gT' := g'.trans (same_new nT (.tup [x, y]))
    obtain rfl : x = .int (i : Nat) := (Option.some.inj hx).symm
    have hk : i < φ.ks.length := by omega
    have hy : (φ.ks.map V.str)[i]? = some y := hy
    rw [List.getElem?_map, List.getElem?_eq_getElem hk] at hy
    obtain rfl := Option.some.inj hy
    refine ⟨T, _, rfl, SqT.of upd_same, rfl, _, _, rfl, _, _, rfl, rfl, ?_⟩
    refine ⟨_, rfl, φ.ks[i], rfl, ?_⟩
    refine ⟨_, rfl, ?_⟩
    by_cases c : φ.ks[i] = "up" ∨ φ.ks[i] = "down"
    · rw [decide_eq_true c]
      refine iteF ?_
      exact ⟨gT, gT', _, _, _, rfl⟩
    · rw [decide_eq_false c]
      refine iteT ?_
      refine ⟨_, rfl, _, rfl, a, _, rfl, ha.same gT, rfl, flat_par φ.ps, _, rfl, ?_⟩
      rw [inV_par]
      have : some i ∉ φ.ps := leaf i φ.ks[i] (List.getElem?_eq_getElem hk) (fun z => c (.inl z)) (fun z => c (.inr z))
      rw [decide_eq_false this]
      refine iteF ?_
      exact ⟨gT, gT', _, _, _, rfl⟩
  · rintro σ H2 ⟨g, _⟩
    exact q _ g

/-- a forest is made -/
def spInit (C : Addr) : Sp := fun vs H Q _ => ∃ (x a b : Addr) (φ : Fo) (dx : Addr), vs = [.ref x, .ref a, .ref b] ∧ H x = some (.ins C dx []) ∧ SqH H a (φ.ps.map pV) ∧ SqH H b (φ.ks.map V.str) ∧ φ.Ok ∧
  ∀ H', But x H H' → FoAt C H' x φ → Q .non H'
theorem SqH.butX {H H' : Hp} {x a : Addr} {C dx : Addr} {fs : List (Str × V)} {xs : List V} (g : But x H H') (hx : H x = some (.ins C dx fs)) (h : SqH H a xs) : SqH H' a xs := by
  rcases h with h | h
  · exact .inl (g _ _ (ne_of h hx (by intro z; cases z)) h)
  · exact .inr (g _ _ (ne_of h hx (by intro z; cases z)) h)
theorem dn_init (B : Bts mg) (T_Forest : TForest K mg C_Forest) (F : DfI K mg "Forest" C_Forest "Forest.__init__" s_Forest____init__ P_Forest____init__) (D_check_forest : Dn P w K mg base 2 "check_forest" (spCheck (K := K))) :
    DnI P w K mg base 3 "Forest" C_Forest (spInit C_Forest) := by
  refine F.ok sc_Forest____init__ (fun vs H Q E h => ?_) (fun fa cdv A outer s H vs Q E hr h => ?_)
  · obtain ⟨x, a, b, φ, dx, rfl, _⟩ := h; rfl
  obtain ⟨x, a, b, φ, dx, rfl, hx, ha, hb, ok, q⟩ := h
  refine ⟨_, (pss_cons
        (ps_expr (My.pe_callD D_check_forest (hr.mono (by omega)) rfl (pa_cons (pv 1) (pa_cons (pv 2) pa_nil))))
        (pss_cons
        (ps_fld (pv 0) (pe_callB call_len_seq rfl B.len_ PySem.boot_len (pa_cons (pv 1) pa_nil)) rfl)
        (pss_cons
        (ps_fld (pv 0) (pe_callTy call_tupS rfl B.tuple_ boot_tuple (pa_cons (pv 1) pa_nil)) rfl)
        (pss_one
        (ps_fld (pv 0) (pe_callTy call_tupS rfl B.tuple_ boot_tuple (pa_cons (pv 2) pa_nil)) rfl))))), ?_⟩
  refine ⟨_, rfl, _, rfl, a, b, φ, rfl, ha.x, hb.x, ok, fun H1 g1 => ?_⟩
  have hx1 := g1 _ _ hx
  have ha1 := ha.same g1
  have hb1 := hb.same g1
  refine ⟨_, rfl, a, _, rfl, ha1.x, _, rfl, x, C_Forest, dx, _, rfl, hx1, T_Forest.cl, T_Forest.n_fields, by decide, ?_⟩
  rw [List.length_map]
  have g2 : But x H (upd H1 x (.ins C_Forest dx [("fields", .int (φ.ps.length : Int))])) := (But.of g1).trans (But.upd _)
  have ha2 := SqH.butX g2 hx ha
  have hb2 := SqH.butX g2 hx hb
  refine ⟨_, rfl, a, _, rfl, ha2, fun p H3 g3 ep => ?_⟩
  have hx3 := g3 _ _ (upd_same (H := H1) (a := x))
  refine ⟨_, rfl, x, C_Forest, dx, _, rfl, hx3, T_Forest.cl, T_Forest.n_parents, by show 1 < 1000; decide, ?_⟩
  have g4 : But x H (upd H3 x (.ins C_Forest dx [("fields", .int (φ.ps.length : Int)), ("parents", .ref p)])) := (g2.trans (But.of g3)).trans (But.upd _)
  have hb4 := SqH.butX g4 hx hb
  have ep4 : upd H3 x (.ins C_Forest dx [("fields", .int (φ.ps.length : Int)), ("parents", .ref p)]) p = some (.tup (φ.ps.map pV)) := by rw [upd_ne (ne_of ep hx3 (by intro z; cases z))]; exact ep
  refine ⟨_, rfl, b, _, rfl, hb4, fun p5 H5 g5 ep5 => ?_⟩
  have hx5 := g5 _ _ (upd_same (H := H3) (a := x))
  refine ⟨_, rfl, x, C_Forest, dx, _, rfl, hx5, T_Forest.cl, T_Forest.n_kinds, by show 2 < 1000; decide, ?_⟩
  refine q _ ((g4.trans (But.of g5)).trans (But.upd _)) ⟨dx, p, p5, upd_same, ?_, ?_⟩
  · rw [upd_ne (ne_of (g5 _ _ ep4) hx5 (by intro z; cases z))]; exact g5 _ _ ep4
  · rw [upd_ne (ne_of ep5 hx5 (by intro z; cases z))]; exact ep5

/-! ### its methods -/
def spPath (C : Addr) : Sp := fun vs H Q _ => ∃ (a : Addr) (φ : Fo) (i : Nat), vs = [.ref a, .int (i : Int)] ∧ FoAt C H a φ ∧ Acy φ.ps ∧ φ.ps.length ≤ 1000 ∧ i < φ.ps.length ∧
  ∀ (p : Addr) (H' : Hp), Same H H' → H' p = some (.tup ((path φ.ps i).map nV)) → Q (.ref p) H'
theorem dn_path (B : Bts mg) (T_Forest : TForest K mg C_Forest) (F : DfM K C_Forest "path" "Forest.path" s_Forest__path P_Forest__path) : DnM P w K mg base 1 C_Forest "path" (spPath C_Forest) := by
  refine F.ok sc_Forest__path (fun vs H Q E h => ?_) (fun fa cdv A outer s H vs Q E hr h => ?_)
  · obtain ⟨a, φ, i, rfl, _⟩ := h; rfl
  obtain ⟨a, φ, i, rfl, hA, ac, hn, hi, q⟩ := h
  refine ⟨_, (pss_cons
        (ps_set (i := 2) sc_Forest__path.nd rfl (.inl rfl) (pe_tup (pa_cons (pv 1) pa_nil)))
        (pss_cons
        (ps_while PassesOwn.never (pt_cmpR op_notN (pe_ix ix_tup (pe_fld (pv 0) rfl) (pe_ix ix_tup (pv 2) pe_int (fun _ _ => rfl)) (fun _ _ => rfl)) pe_non (nomark _)) (pss_one
          (ps_set (i := 2) sc_Forest__path.nd rfl (.inl rfl) (pe_op op_catS (pe_tup (pa_cons (pe_ix ix_tup (pe_fld (pv 0) rfl) (pe_ix ix_tup (pv 2) pe_int (fun _ _ => rfl)) (fun _ _ => rfl)) pa_nil)) (pv 2)))))
        (pss_one
        (ps_ret (pv 2))))), ?_⟩
  obtain ⟨r, r1, r2⟩ := ac.rk
  have hlen := path_len ac hi
  refine ⟨_, rfl, small (by show 1 ≤ 100000; decide), fun p0 n0 => ?_⟩
  have g0 := same_new n0 (.tup [.int (i : Int)])
  refine ⟨fun m σ H' => ∃ (j : Nat) (rest : List Nat) (p : Addr), σ = [some (.ref a), some (.int (i : Int)), some (.ref p)] ∧ Same H H' ∧ H' p = some (.tup ((j :: rest).map nV)) ∧ path φ.ps i = path φ.ps j ++ rest ∧ j < φ.ps.length ∧ r j ≤ m, ⟨r i, i, [], p0, rfl, g0, upd_same, by rw [List.append_nil], hi, Nat.le_refl _⟩, ?_⟩
  rintro m σ H' ⟨j, rest, p, rfl, g, ep, hp, hj, hm⟩
  obtain ⟨dx, pt, kt, h1, h2, h3⟩ := hA.same g
  have ln : rest.length < φ.ps.length := by
    have h1 : (path φ.ps i).length = (path φ.ps j).length + rest.length := by rw [hp, List.length_append]
    have h2 : 0 < (path φ.ps j).length := List.length_pos_iff.mpr (path_ne _ _)
    omega
  refine ⟨_, rfl, a, C_Forest, dx, _, _, rfl, h1, T_Forest.cl, T_Forest.n_parents, rfl, ?_⟩
  have hd : atI ((j :: rest).map nV) 0 = some (nV j) := atI_nat (j := 0) rfl
  refine ⟨_, rfl, p, _, _, _, rfl, rfl, SqT.of ep, hd, pt, _, _, _, rfl, rfl, SqT.of h2, atI_nat (par_at hj), rfl, _, rfl, ?_⟩
  rw [pV_non]
  cases e : par φ.ps j with
  | none =>
    refine iteF ?_
    refine ⟨_, rfl, q p H' g ?_⟩
    rw [hp, path_root e]
    exact ep
  | some k =>
    refine iteT ?_
    have hk := ac.lt e
    have rk := r2 e
    refine ⟨fun σ H'' => ∃ (rest' : List Nat) (p' : Addr), σ = [some (.ref a), some (.int (i : Int)), some (.ref p')] ∧ Same H H'' ∧ H'' p' = some (.tup ((k :: rest').map nV)) ∧ path φ.ps i = path φ.ps k ++ rest', ?_, ?_⟩
    · rintro σ' H'' ⟨rest', p', rfl, h1, h2, h3⟩
      exact ⟨r k, by omega, k, rest', p', rfl, h1, h2, h3, hk, Nat.le_refl _⟩
    refine ⟨_, rfl, a, C_Forest, dx, _, _, rfl, h1, T_Forest.cl, T_Forest.n_parents, rfl, _, rfl, p, _, _, _, rfl, rfl, SqT.of ep, hd, pt, _, _, _, rfl, rfl, SqT.of h2, atI_nat (par_at hj), ?_⟩
    rw [e]
    refine ⟨small (by show 1 ≤ 100000; decide), fun p1 n1 => ?_⟩
    have g1 := same_new n1 (.tup [.int (k : Int)])
    refine ⟨_, rfl, p1, p, _, _, rfl, rfl, upd_same, g1 _ _ ep, by rw [List.length_map, List.length_cons]; show 1 + (rest.length + 1) ≤ 100000; omega, fun z H2 g2 ez => ?_⟩
    refine ⟨j :: rest, z, rfl, g.trans (g1.trans g2), ez, ?_⟩
    rw [hp, path_step ac e, List.append_assoc]
    rfl

/-- the fields that pass, in a tuple -/
def spSift (C : Addr) (f : Fo → Nat → Bool) : Sp := fun vs H Q _ => ∃ (a : Addr) (φ : Fo), vs = [.ref a] ∧ FoAt C H a φ ∧ Acy φ.ps ∧ φ.ps.length ≤ 1000 ∧
  ∀ (p : Addr) (H' : Hp), Same H H' → H' p = some (.tup (((List.range φ.ps.length).filter (f φ)).map nV)) → Q (.ref p) H'
def isRoot (φ : Fo) (k : Nat) : Bool := decide (par φ.ps k = none)
def isLeaf (φ : Fo) (k : Nat) : Bool := !decide (some k ∈ φ.ps)
theorem dn_roots (B : Bts mg) (T_Forest : TForest K mg C_Forest) (F : DfP K C_Forest "roots" "Forest.roots" s_Forest__roots P_Forest__roots) : DnP P w K mg base 1 C_Forest "roots" (spSift C_Forest isRoot) := by
  refine F.ok sc_Forest__roots (fun vs H Q E h => ?_) (fun fa cdv A outer s H vs Q E hr h => ?_)
  · obtain ⟨a, φ, rfl, _⟩ := h; rfl
  obtain ⟨a, φ, rfl, hA, ac, hn, q⟩ := h
  refine ⟨_, (pss_one
        (ps_ret (pe_callTy call_tuple_of rfl B.tuple_ boot_tuple (pa_cons (pe_lc (own := [("field", 1)]) (g := gName 1) rfl sc_Forest__roots.nd (pi_range1 rfl B.range_ (pa_cons (pe_fld (pv 0) rfl) pa_nil)) (blkOk_by (own := [("field", 1)]) (N := N_Forest__roots) (sc := defScope s_Forest__roots) (by decide +kernel)) (fun _ _ _ _ _ => pg_name (i := 1) sc_Forest__roots.nd rfl (.inl rfl)) (fun _ _ _ _ _ => (pts_one (pt_cmpR op_isN (pe_ix (ix_tupK (K := K) rfl) (fldK (K := K) rfl (pv 0) rfl) (pv 1) (fun _ _ => rfl)) pe_non (nomark _)))) (fun _ _ _ _ _ => (pv 1))) pa_nil)))), ?_⟩
  dsimp only [tRet, tCB, tCons]
  refine lc_filter (n := φ.ps.length) (isRoot φ) (by omega) (fun R h => ?_) (by exact fun _ => rfl) (by exact fun _ => rfl) (fun k H' R hk g h => ?_) fun D H1 g1 eD => ?_
  · obtain ⟨dx, pt, kt, h1, h2, h3⟩ := hA
    exact ⟨_, rfl, a, C_Forest, dx, _, _, rfl, h1, T_Forest.cl, T_Forest.n_fields, rfl, _, rfl, by omega, by omega, h⟩
  · obtain ⟨dx, pt, kt, h1, h2, h3⟩ := hA.same g
    refine ⟨_, rfl, a, C_Forest, dx, _, _, rfl, h1, T_Forest.cl, T_Forest.n_parents, rfl, _, rfl, pt, _, _, _, rfl, rfl, SqT.of h2, atI_nat (par_at hk), rfl, _, rfl, ?_⟩
    rw [pV_non]
    exact h H' (Same.refl _)
  · refine ⟨D, _, rfl, .inl ⟨SqL.of eD, fun p np => q p _ (g1.trans (same_new np _)) upd_same⟩⟩
theorem dn_leaves (B : Bts mg) (T_Forest : TForest K mg C_Forest) (F : DfP K C_Forest "leaves" "Forest.leaves" s_Forest__leaves P_Forest__leaves) : DnP P w K mg base 1 C_Forest "leaves" (spSift C_Forest isLeaf) := by
  refine F.ok sc_Forest__leaves (fun vs H Q E h => ?_) (fun fa cdv A outer s H vs Q E hr h => ?_)
  · obtain ⟨a, φ, rfl, _⟩ := h; rfl
  obtain ⟨a, φ, rfl, hA, ac, hn, q⟩ := h
  refine ⟨_, (pss_one
        (ps_ret (pe_callTy call_tuple_of rfl B.tuple_ boot_tuple (pa_cons (pe_lc (own := [("field", 1)]) (g := gName 1) rfl sc_Forest__leaves.nd (pi_range1 rfl B.range_ (pa_cons (pe_fld (pv 0) rfl) pa_nil)) (blkOk_by (own := [("field", 1)]) (N := N_Forest__leaves) (sc := defScope s_Forest__leaves) (by decide +kernel)) (fun _ _ _ _ _ => pg_name (i := 1) sc_Forest__leaves.nd rfl (.inl rfl)) (fun _ _ _ _ _ => (pts_one (pt_cmpR (notIn_seqK (K := K) rfl) (pv 1) (fldK (K := K) rfl (pv 0) rfl) (by rfl)))) (fun _ _ _ _ _ => (pv 1))) pa_nil)))), ?_⟩
  dsimp only [tRet, tCB, tCons]
  refine lc_filter (n := φ.ps.length) (isLeaf φ) (by omega) (fun R h => ?_) (by exact fun _ => rfl) (by exact fun _ => rfl) (fun k H' R hk g h => ?_) fun D H1 g1 eD => ?_
  · obtain ⟨dx, pt, kt, h1, h2, h3⟩ := hA
    exact ⟨_, rfl, a, C_Forest, dx, _, _, rfl, h1, T_Forest.cl, T_Forest.n_fields, rfl, _, rfl, by omega, by omega, h⟩
  · obtain ⟨dx, pt, kt, h1, h2, h3⟩ := hA.same g
    refine ⟨_, rfl, _, rfl, a, C_Forest, dx, _, _, rfl, h1, T_Forest.cl, T_Forest.n_parents, rfl, pt, _, rfl, .inr (SqT.of h2), rfl, flat_par φ.ps, _, rfl, ?_⟩
    show R (!inV (.int (k : Int)) (φ.ps.map pV)) H'
    rw [inV_par]
    exact h H' (Same.refl _)
  · refine ⟨D, _, rfl, .inl ⟨SqL.of eD, fun p np => q p _ (g1.trans (same_new np _)) upd_same⟩⟩
/-- fair: a truth value -/
def isFair (ks : List Str) : Bool := !decide (("first" : Str) ∈ ks) && !decide (("last" : Str) ∈ ks)
def spFair (C : Addr) : Sp := fun vs H Q _ => ∃ (a : Addr) (φ : Fo), vs = [.ref a] ∧ FoAt C H a φ ∧ Q (.bl (isFair φ.ks)) H
theorem dn_fair (B : Bts mg) (T_Forest : TForest K mg C_Forest) (F : DfP K C_Forest "fair" "Forest.fair" s_Forest__fair P_Forest__fair) : DnP P w K mg base 1 C_Forest "fair" (spFair C_Forest) := by
  refine F.ok sc_Forest__fair (fun vs H Q E h => ?_) (fun fa cdv A outer s H vs Q E hr h => ?_)
  · obtain ⟨a, φ, rfl, _⟩ := h; rfl
  obtain ⟨a, φ, rfl, hA, q⟩ := h
  refine ⟨_, (pss_one
        (ps_ret (pe_and (pe_cmpR op_notIn_seq pe_str (pe_fld (pv 0) rfl) (by rfl)) (pe_one (pe_cmpR op_notIn_seq pe_str (pe_fld (pv 0) rfl) (by rfl)))))), ?_⟩
  obtain ⟨dx, pt, kt, h1, h2, h3⟩ := hA
  refine ⟨_, rfl, a, C_Forest, dx, _, _, rfl, h1, T_Forest.cl, T_Forest.n_kinds, rfl, kt, _, rfl, .inr (SqT.of h3), rfl, My.flat_strs φ.ks, _, rfl, ?_⟩
  show if (!inV (.str "first") (φ.ks.map V.str)) = true then _ else _
  rw [inV_strs]
  unfold isFair at q
  by_cases c : ("first" : Str) ∈ φ.ks
  · rw [decide_eq_true c] at q ⊢
    exact q
  · rw [decide_eq_false c] at q ⊢
    refine iteT ?_
    refine ⟨_, rfl, a, C_Forest, dx, _, _, rfl, h1, T_Forest.cl, T_Forest.n_kinds, rfl, kt, _, rfl, .inr (SqT.of h3), rfl, My.flat_strs φ.ks, ?_⟩
    show Q (.bl (!inV (.str "last") (φ.ks.map V.str))) H
    rw [inV_strs]
    exact q
/-- the children of a field, or of None -/
def isChild (o : Option Nat) (φ : Fo) (k : Nat) : Bool := decide (par φ.ps k = o)
def spChildren (C : Addr) : Sp := fun vs H Q _ => ∃ (a : Addr) (φ : Fo) (o : Option Nat), vs = [.ref a, pV o] ∧ FoAt C H a φ ∧ Acy φ.ps ∧ φ.ps.length ≤ 1000 ∧
  ∀ (p : Addr) (H' : Hp), Same H H' → H' p = some (.tup (((List.range φ.ps.length).filter (isChild o φ)).map nV)) → Q (.ref p) H'
theorem pV_eq (o o' : Option Nat) : decide (pV o = pV o') = decide (o = o') := by
  cases o with
  | none => cases o' with
    | none => rfl
    | some p => exact decide_eq_false (fun z => nomatch z)
  | some p => cases o' with
    | none => exact decide_eq_false (fun z => nomatch z)
    | some p' =>
      by_cases e : p = p'
      · subst e; rw [decide_eq_true rfl, decide_eq_true rfl]
      · rw [decide_eq_false (fun z => e (by injection z with z; omega)), decide_eq_false (fun z => e (by injection z))]
theorem dn_children (B : Bts mg) (T_Forest : TForest K mg C_Forest) (F : DfM K C_Forest "children" "Forest.children" s_Forest__children P_Forest__children) : DnM P w K mg base 1 C_Forest "children" (spChildren C_Forest) := by
  refine F.ok sc_Forest__children (fun vs H Q E h => ?_) (fun fa cdv A outer s H vs Q E hr h => ?_)
  · obtain ⟨a, φ, o, rfl, _⟩ := h; rfl
  obtain ⟨a, φ, o, rfl, hA, ac, hn, q⟩ := h
  refine ⟨_, (pss_one
        (ps_ret (pe_callTy call_tuple_of rfl B.tuple_ boot_tuple (pa_cons (pe_lc (own := [("child", 2)]) (g := gName 2) rfl sc_Forest__children.nd (pi_range1 rfl B.range_ (pa_cons (pe_fld (pv 0) rfl) pa_nil)) (blkOk_by (own := [("child", 2)]) (N := N_Forest__children) (sc := defScope s_Forest__children) (by decide +kernel)) (fun _ _ _ _ _ => pg_name (i := 2) sc_Forest__children.nd rfl (.inl rfl)) (fun _ _ _ _ _ => (pts_one (pt_cmpR op_eq (pe_ix (ix_tupK (K := K) rfl) (fldK (K := K) rfl (pv 0) rfl) (pv 2) (fun _ _ => rfl)) (pv 1) (nomark _)))) (fun _ _ _ _ _ => (pv 2))) pa_nil)))), ?_⟩
  dsimp only [tRet, tCB, tCons]
  refine lc_filter (n := φ.ps.length) (isChild o φ) (by omega) (fun R h => ?_) (by exact fun _ => rfl) (by exact fun _ => rfl) (fun k H' R hk g h => ?_) fun D H1 g1 eD => ?_
  · obtain ⟨dx, pt, kt, h1, h2, h3⟩ := hA
    exact ⟨_, rfl, a, C_Forest, dx, _, _, rfl, h1, T_Forest.cl, T_Forest.n_fields, rfl, _, rfl, by omega, by omega, h⟩
  · obtain ⟨dx, pt, kt, h1, h2, h3⟩ := hA.same g
    refine ⟨_, rfl, a, C_Forest, dx, _, _, rfl, h1, T_Forest.cl, T_Forest.n_parents, rfl, _, rfl, pt, _, _, _, rfl, rfl, SqT.of h2, atI_nat (par_at hk), _, rfl, ?_, _, rfl, ?_⟩
    · cases par φ.ps k <;> cases o <;> rfl
    · rw [pV_eq]
      exact h H' (Same.refl _)
  · refine ⟨D, _, rfl, .inl ⟨SqL.of eD, fun p np => q p _ (g1.trans (same_new np _)) upd_same⟩⟩
/-- the fields beneath a field -/
def isBeneath (i : Nat) (φ : Fo) (k : Nat) : Bool := !decide (k = i) && decide (i ∈ path φ.ps k)
def spBeneath (C : Addr) : Sp := fun vs H Q _ => ∃ (a : Addr) (φ : Fo) (i : Nat), vs = [.ref a, .int (i : Int)] ∧ FoAt C H a φ ∧ Acy φ.ps ∧ φ.ps.length ≤ 1000 ∧
  ∀ (p : Addr) (H' : Hp), Same H H' → H' p = some (.tup (((List.range φ.ps.length).filter (isBeneath i φ)).map nV)) → Q (.ref p) H'
theorem nV_eq (i j : Nat) : decide (nV i = nV j) = decide (i = j) := by
  by_cases e : i = j
  · subst e; rw [decide_eq_true rfl, decide_eq_true rfl]
  · rw [decide_eq_false (fun z => e (by injection z with z; omega)), decide_eq_false e]
theorem dn_beneath (B : Bts mg) (T_Forest : TForest K mg C_Forest) (F : DfM K C_Forest "beneath" "Forest.beneath" s_Forest__beneath P_Forest__beneath) (D_Forest__path : DnM P w K mg base 1 C_Forest "path" (spPath C_Forest)) : DnM P w K mg base 2 C_Forest "beneath" (spBeneath C_Forest) := by
  refine F.ok sc_Forest__beneath (fun vs H Q E h => ?_) (fun fa cdv A outer s H vs Q E hr h => ?_)
  · obtain ⟨a, φ, o, rfl, _⟩ := h; rfl
  obtain ⟨a, φ, i, rfl, hA, ac, hn, q⟩ := h
  refine ⟨_, (pss_one
        (ps_ret (pe_callTy call_tuple_of rfl B.tuple_ boot_tuple (pa_cons (pe_lc (own := [("other", 2)]) (g := gName 2) rfl sc_Forest__beneath.nd (pi_range1 rfl B.range_ (pa_cons (pe_fld (pv 0) rfl) pa_nil)) (blkOk_by (own := [("other", 2)]) (N := N_Forest__beneath) (sc := defScope s_Forest__beneath) (by decide +kernel)) (fun _ _ _ _ _ => pg_name (i := 2) sc_Forest__beneath.nd rfl (.inl rfl)) (fun _ _ _ _ _ => (pts_one (PW.pt (pw_and (pt_cmpR op_ne (pv 2) (pv 1) (nomark _)) (pw_and1 (pt_cmpR (in_seqK (K := K) rfl) (pv 1) (pe_callM D_Forest__path T_Forest.cl (hr.mono (by omega)) (pv 0) (pa_cons (pv 2) pa_nil)) (by rfl))))))) (fun _ _ _ _ _ => (pv 2))) pa_nil)))), ?_⟩
  dsimp only [tRet, tCB, tCons]
  refine lc_filter (n := φ.ps.length) (isBeneath i φ) (by omega) (fun R h => ?_) (by exact fun _ => rfl) (by exact fun _ => rfl) (fun k H' R hk g h => ?_) fun D H1 g1 eD => ?_
  · obtain ⟨dx, pt, kt, h1, h2, h3⟩ := hA
    exact ⟨_, rfl, a, C_Forest, dx, _, _, rfl, h1, T_Forest.cl, T_Forest.n_fields, rfl, _, rfl, by omega, by omega, h⟩
  · have hA' := hA.same g
    obtain ⟨dx, pt, kt, h1, h2, h3⟩ := hA.same g
    refine ⟨_, rfl, _, rfl, rfl, _, rfl, ?_⟩
    rw [show decide (nV k = V.int (i : Int)) = decide (k = i) from nV_eq k i]
    have hb : isBeneath i φ k = (!decide (k = i) && decide (i ∈ path φ.ps k)) := rfl
    by_cases c : k = i
    · rw [decide_eq_true c] at hb ⊢
      refine iteF ?_
      have := h H' (Same.refl _)
      rw [hb] at this
      exact this
    · rw [decide_eq_false c] at hb ⊢
      refine iteT ?_
      refine ⟨_, rfl, _, rfl, a, dx, _, rfl, h1, rfl, _, rfl, a, φ, k, rfl, hA', ac, hn, hk, fun p H2 g2 e2 => ?_⟩
      refine ⟨p, _, rfl, .inr (SqT.of e2), rfl, flat_nats _, _, rfl, ?_⟩
      show R (inV (.int (i : Int)) ((path φ.ps k).map nV)) H2
      rw [inV_nats]
      have := h H2 g2
      rw [hb] at this
      exact this
  · refine ⟨D, _, rfl, .inl ⟨SqL.of eD, fun p np => q p _ (g1.trans (same_new np _)) upd_same⟩⟩

/-- a pair of a field and a kind -/
def PairAt (H : Hp) (v : V) (x : Nat × Str) : Prop := ∃ p, v = .ref p ∧ H p = some (.tup [nV x.1, .str x.2])
theorem PairAt.keep {H H' : Hp} {v : V} {x : Nat × Str} (k : ∀ p xs, H p = some (.tup xs) → H' p = some (.tup xs)) (h : PairAt H v x) : PairAt H' v x := by
  obtain ⟨p, rfl, h⟩ := h
  exact ⟨p, rfl, k _ _ h⟩
abbrev PairsAt (H : Hp) : List V → List (Nat × Str) → Prop := Paired (PairAt H)
theorem PairsAt.keep {H H' : Hp} {us : List V} {xs : List (Nat × Str)} (k : ∀ p xs, H p = some (.tup xs) → H' p = some (.tup xs)) (h : PairsAt H us xs) : PairsAt H' us xs := Paired.mapP h fun _ _ q => q.keep k
theorem Paired.at {α β : Type} {R : α → β → Prop} : ∀ {l₁ : List α} {l₂ : List β} {i : Nat} {x : α}, Paired R l₁ l₂ → l₁[i]? = some x → ∃ y, l₂[i]? = some y ∧ R x y
  | _, _, _, _, .nil, e => by simp at e
  | _, _, 0, _, .cons r _, e => by simp at e; subst e; exact ⟨_, rfl, r⟩
  | _, _, i + 1, x, .cons _ t, e => by
    obtain ⟨y, h1, h2⟩ := Paired.at (i := i) t (by simpa using e)
    exact ⟨y, by simpa using h1, h2⟩
theorem Paired.app {α β : Type} {R : α → β → Prop} : ∀ {a c : List α} {b d : List β}, Paired R a b → Paired R c d → Paired R (a ++ c) (b ++ d)
  | _, _, _, _, .nil, h => h
  | _, _, _, _, .cons r t, h => .cons r (Paired.app t h)
def kindOf (ks : List Str) (j : Nat) : Str := ks.getD j "up"
theorem kind_at {ks : List Str} {j : Nat} (h : j < ks.length) : (ks.map V.str)[j]? = some (.str (kindOf ks j)) := by
  unfold kindOf
  rw [List.getElem?_map, List.getD_eq_getElem?_getD, List.getElem?_eq_getElem h]
  rfl
def wordOf (ps : List (Option Nat)) (ks : List Str) (i : Nat) : List (Nat × Str) := (path ps i).map fun j => (j, kindOf ks j)
def spWord (C : Addr) : Sp := fun vs H Q _ => ∃ (a : Addr) (φ : Fo) (i : Nat), vs = [.ref a, .int (i : Int)] ∧ FoAt C H a φ ∧ Acy φ.ps ∧ φ.ps.length ≤ 1000 ∧ φ.ks.length = φ.ps.length ∧ i < φ.ps.length ∧
  ∀ (p : Addr) (H' : Hp) (us : List V), Same H H' → H' p = some (.tup us) → PairsAt H' us (wordOf φ.ps φ.ks i) → Q (.ref p) H'
theorem dn_word (B : Bts mg) (T_Forest : TForest K mg C_Forest) (F : DfM K C_Forest "word" "Forest.word" s_Forest__word P_Forest__word) (D_Forest__path : DnM P w K mg base 1 C_Forest "path" (spPath C_Forest)) : DnM P w K mg base 2 C_Forest "word" (spWord C_Forest) := by
  refine F.ok sc_Forest__word (fun vs H Q E h => ?_) (fun fa cdv A outer s H vs Q E hr h => ?_)
  · obtain ⟨a, φ, i, rfl, _⟩ := h; rfl
  obtain ⟨a, φ, i, rfl, hA, ac, hn, lk, hi, q⟩ := h
  refine ⟨_, (pss_one
        (ps_ret (pe_callTy call_tuple_of rfl B.tuple_ boot_tuple (pa_cons (pe_lc (own := [("step", 2)]) (g := gName 2) (tt := tYes) rfl sc_Forest__word.nd (pi_tup (pe_callM D_Forest__path T_Forest.cl (hr.mono (by omega)) (pv 0) (pa_cons (pv 1) pa_nil))) (blkOk_by (own := [("step", 2)]) (N := N_Forest__word) (sc := defScope s_Forest__word) (by decide +kernel)) (fun _ _ _ _ _ => pg_name (i := 2) sc_Forest__word.nd rfl (.inl rfl)) (fun _ _ _ _ _ => pts_nil) (fun _ _ _ _ _ => (pe_tup (pa_cons (pv 2) (pa_cons (pe_ix (ix_tupK (K := K) rfl) (fldK (K := K) rfl (pv 0) rfl) (pv 2) (fun _ _ => rfl)) pa_nil))))) pa_nil)))), ?_⟩
  obtain ⟨dx, pt, kt, h1, h2, h3⟩ := hA
  have plen := path_len ac hi
  refine ⟨_, rfl, a, dx, _, rfl, h1, rfl, _, rfl, a, φ, i, rfl, ⟨dx, pt, kt, h1, h2, h3⟩, ac, hn, hi, fun p H1 g1 e1 => ?_⟩
  refine ⟨p, rfl, ⟨_, SqT.of e1⟩, fun D nD => ?_⟩
  refine lc_tup (a := p) (xs := (path φ.ps i).map nV) (fun k H' => Same H1 H' ∧ ∃ us, H' D = some (.lst us) ∧ us.length = k ∧ PairsAt H' us (((path φ.ps i).take k).map fun j => (j, kindOf φ.ks j))) ⟨same_new nD _, [], upd_same, rfl, .nil⟩ (fun k H' _ ⟨g, _⟩ => SqT.of (g _ _ e1)) ?_ ?_
  · rintro k x H2 hx ⟨g2, us, e2, l2, pr⟩
    rw [List.getElem?_map] at hx
    obtain ⟨j, hj, rfl⟩ := Option.map_eq_some_iff.mp hx
    have kl : k < (path φ.ps i).length := (List.getElem?_eq_some_iff.mp hj).1
    have jl := path_lt ac hi j (List.mem_of_getElem? hj)
    have g12 := g1.trans g2
    refine ⟨rfl, ?_⟩
    refine ⟨_, rfl, _, rfl, a, C_Forest, dx, _, _, rfl, g12 _ _ h1, T_Forest.cl, T_Forest.n_kinds, rfl, _, rfl, kt, _, _, _, rfl, rfl, SqT.of (g12 _ _ h3), atI_nat (kind_at (by rw [lk]; exact jl)), ?_⟩
    refine ⟨small (by show 2 ≤ 100000; decide), fun z nz => ?_⟩
    have gz := same_new nz (.tup [nV j, .str (kindOf φ.ks j)])
    have e3 := gz _ _ e2
    refine ⟨us, e3, smallLt (by omega), (g2.trans gz).later nD, us ++ [.ref z], upd_same, by rw [List.length_append, l2]; rfl, ?_⟩
    have et : (path φ.ps i).take (k + 1) = (path φ.ps i).take k ++ [j] := by rw [List.take_add_one, hj]; rfl
    rw [et, List.map_append]
    exact Paired.app (pr.keep fun p xs e => upd_tup e3 (gz _ _ e)) (.cons ⟨z, rfl, upd_tup e3 upd_same⟩ .nil)
  · rintro H2 ⟨g2, us, e2, l2, pr⟩
    rw [show ((path φ.ps i).map nV).length = (path φ.ps i).length from List.length_map .., List.take_length] at pr
    refine ⟨D, _, rfl, .inl ⟨SqL.of e2, fun z nz => ?_⟩⟩
    have gz := same_new nz (.tup us)
    exact q z _ us (g1.trans (g2.trans gz)) upd_same (pr.keep fun p xs e => gz _ _ e)
/-- the forests with two kinds exchanged -/
def swap (x y k : Str) : Str := if k = x then y else if k = y then x else k
def spSwap (C : Addr) (x y : Str) : Sp := fun vs H Q _ => ∃ (a : Addr) (φ : Fo), vs = [.ref a] ∧ FoAt C H a φ ∧ φ.Ok ∧ ∀ (b : Addr) (H' : Hp), Same H H' → FoAt C H' b ⟨φ.ps, φ.ks.map (swap x y)⟩ → Q (.ref b) H'
theorem swap_ok {φ : Fo} (ok : φ.Ok) {x y : Str} (h : (x = "up" ∧ y = "down") ∨ (x = "first" ∧ y = "last")) : Fo.Ok ⟨φ.ps, φ.ks.map (swap x y)⟩ := by
  obtain ⟨len, pos, most, acy, four, leaf⟩ := ok
  have four' : ∀ k : Str, (k = "up" ∨ k = "down" ∨ k = "first" ∨ k = "last") → (swap x y k = "up" ∨ swap x y k = "down" ∨ swap x y k = "first" ∨ swap x y k = "last") ∧ ((swap x y k ≠ "up" → swap x y k ≠ "down" → k ≠ "up" ∧ k ≠ "down")) := by
    intro k hk
    rcases h with ⟨rfl, rfl⟩ | ⟨rfl, rfl⟩ <;> rcases hk with rfl | rfl | rfl | rfl <;> decide
  refine ⟨by rw [List.length_map]; exact len, pos, most, acy, fun k hk => ?_, fun i k hk n1 n2 => ?_⟩
  · obtain ⟨k', hk', rfl⟩ := List.mem_map.mp hk
    exact (four' k' (four k' hk')).1
  · have hk : (φ.ks.map (swap x y))[i]? = some k := hk
    rw [List.getElem?_map] at hk
    obtain ⟨k', hk', rfl⟩ := Option.map_eq_some_iff.mp hk
    obtain ⟨m1, m2⟩ := (four' k' (four k' (List.mem_of_getElem? hk'))).2 n1 n2
    exact leaf i k' hk' m1 m2
theorem dn_turned (B : Bts mg) (G : Gcs K w mg) (T_Forest : TForest K mg C_Forest) (F : Df K mg "turned_forest" s_turned_forest P_turned_forest) (D_Forest____init__ : DnI P w K mg base 3 "Forest" C_Forest (spInit C_Forest)) : Dn P w K mg base 5 "turned_forest" (spSwap C_Forest "up" "down") := by
  refine F.ok sc_turned_forest (fun vs H Q E h => ?_) (fun fa cdv A outer s H vs Q E hr h => ?_)
  · obtain ⟨a, φ, rfl, _⟩ := h; rfl
  obtain ⟨a, φ, rfl, hA, ok, q⟩ := h
  obtain ⟨a_TURNED, g_TURNED, u1, u2, u3, u4⟩ := G.TURNED_
  refine ⟨_, (pss_one
        (ps_ret (pe_makeD D_Forest____init__ (hr.mono (by omega)) rfl (pa_cons (pe_fld (pv 0) rfl) (pa_cons (pe_lc (own := [("kind", 1)]) (g := gName 1) (tt := tYes) rfl sc_turned_forest.nd (pi_tup (pe_fld (pv 0) rfl)) (blkOk_by (own := [("kind", 1)]) (N := N_turned_forest) (sc := defScope s_turned_forest) (by decide +kernel)) (fun _ _ _ _ _ => pg_name (i := 1) sc_turned_forest.nd rfl (.inl rfl)) (fun _ _ _ _ _ => pts_nil) (fun _ _ _ _ _ => (pe_ix (ix_kdictK (K := K) (w := w) rfl rfl) (pe_glob rfl g_TURNED (show L2.RelV (.ref a_TURNED) _ from rfl)) (pv 1) (fun _ _ => rfl)))) pa_nil))))), ?_⟩
  obtain ⟨dx, pt, kt, h1, h2, h3⟩ := hA
  refine ⟨_, rfl, a, C_Forest, dx, _, _, rfl, h1, T_Forest.cl, T_Forest.n_parents, rfl, ?_⟩
  refine ⟨_, rfl, a, C_Forest, dx, _, _, rfl, h1, T_Forest.cl, T_Forest.n_kinds, rfl, ?_⟩
  have kd : ∀ k : Str, (k = "up" ∨ k = "down" ∨ k = "first" ∨ k = "last") → KDct K w a_TURNED k (.str (swap "up" "down" k)) := by
    intro k hk
    rcases hk with rfl | rfl | rfl | rfl
    · exact u1
    · exact u2
    · exact u3
    · exact u4
  refine ⟨kt, rfl, ⟨_, SqT.of h3⟩, fun D nD => ?_⟩
  refine lc_tup (a := kt) (xs := φ.ks.map V.str) (fun k H' => Same H H' ∧ H' D = some (.lst (((φ.ks.take k).map (swap "up" "down")).map V.str))) ⟨same_new nD _, upd_same⟩ (fun k H' _ ⟨g, _⟩ => SqT.of (g _ _ h3)) ?_ ?_
  · rintro k x H2 hx ⟨g2, e2⟩
    rw [List.getElem?_map] at hx
    obtain ⟨j, hj, rfl⟩ := Option.map_eq_some_iff.mp hx
    have kl : k < φ.ks.length := (List.getElem?_eq_some_iff.mp hj).1
    refine ⟨rfl, ?_⟩
    refine ⟨_, rfl, a_TURNED, j, _, rfl, rfl, kd j (ok.four j (List.mem_of_getElem? hj)), ?_⟩
    refine ⟨_, e2, smallLt (by rw [List.length_map, List.length_map, List.length_take]; have := ok.len; have := ok.most; omega), g2.later nD, ?_⟩
    rw [upd_same, List.take_add_one, hj, List.map_append, List.map_append]
    rfl
  · rintro H2 ⟨g2, e2⟩
    rw [show (φ.ks.map V.str).length = φ.ks.length from List.length_map .., List.take_length] at e2
    intro x dx nx ndx ne
    have gx : Same H2 (upd (upd H2 dx (.own x)) x (.ins C_Forest dx [])) := (same_new ndx _).trans (same_new (by rw [upd_ne ne.symm]; exact nx) _)
    refine ⟨x, pt, D, ⟨φ.ps, φ.ks.map (swap "up" "down")⟩, dx, rfl, upd_same, .inr (gx _ _ (g2 _ _ h2)), .inl (gx _ _ e2), swap_ok ok (.inl ⟨rfl, rfl⟩), fun H' b' fo => ⟨rfl, q x H' ?_ fo⟩⟩
    intro b u hb
    have hb2 := g2 _ _ hb
    exact b' b u (ne_of_none hb2 nx) (gx _ _ hb2)
theorem dn_mirror (B : Bts mg) (G : Gcs K w mg) (T_Forest : TForest K mg C_Forest) (F : Df K mg "mirror_forest" s_mirror_forest P_mirror_forest) (D_Forest____init__ : DnI P w K mg base 3 "Forest" C_Forest (spInit C_Forest)) : Dn P w K mg base 5 "mirror_forest" (spSwap C_Forest "first" "last") := by
  refine F.ok sc_mirror_forest (fun vs H Q E h => ?_) (fun fa cdv A outer s H vs Q E hr h => ?_)
  · obtain ⟨a, φ, rfl, _⟩ := h; rfl
  obtain ⟨a, φ, rfl, hA, ok, q⟩ := h
  obtain ⟨a_MIRRORED, g_MIRRORED, u1, u2, u3, u4⟩ := G.MIRRORED_
  refine ⟨_, (pss_one
        (ps_ret (pe_makeD D_Forest____init__ (hr.mono (by omega)) rfl (pa_cons (pe_fld (pv 0) rfl) (pa_cons (pe_lc (own := [("kind", 1)]) (g := gName 1) (tt := tYes) rfl sc_mirror_forest.nd (pi_tup (pe_fld (pv 0) rfl)) (blkOk_by (own := [("kind", 1)]) (N := N_mirror_forest) (sc := defScope s_mirror_forest) (by decide +kernel)) (fun _ _ _ _ _ => pg_name (i := 1) sc_mirror_forest.nd rfl (.inl rfl)) (fun _ _ _ _ _ => pts_nil) (fun _ _ _ _ _ => (pe_ix (ix_kdictK (K := K) (w := w) rfl rfl) (pe_glob rfl g_MIRRORED (show L2.RelV (.ref a_MIRRORED) _ from rfl)) (pv 1) (fun _ _ => rfl)))) pa_nil))))), ?_⟩
  obtain ⟨dx, pt, kt, h1, h2, h3⟩ := hA
  refine ⟨_, rfl, a, C_Forest, dx, _, _, rfl, h1, T_Forest.cl, T_Forest.n_parents, rfl, ?_⟩
  refine ⟨_, rfl, a, C_Forest, dx, _, _, rfl, h1, T_Forest.cl, T_Forest.n_kinds, rfl, ?_⟩
  have kd : ∀ k : Str, (k = "up" ∨ k = "down" ∨ k = "first" ∨ k = "last") → KDct K w a_MIRRORED k (.str (swap "first" "last" k)) := by
    intro k hk
    rcases hk with rfl | rfl | rfl | rfl
    · exact u1
    · exact u2
    · exact u3
    · exact u4
  refine ⟨kt, rfl, ⟨_, SqT.of h3⟩, fun D nD => ?_⟩
  refine lc_tup (a := kt) (xs := φ.ks.map V.str) (fun k H' => Same H H' ∧ H' D = some (.lst (((φ.ks.take k).map (swap "first" "last")).map V.str))) ⟨same_new nD _, upd_same⟩ (fun k H' _ ⟨g, _⟩ => SqT.of (g _ _ h3)) ?_ ?_
  · rintro k x H2 hx ⟨g2, e2⟩
    rw [List.getElem?_map] at hx
    obtain ⟨j, hj, rfl⟩ := Option.map_eq_some_iff.mp hx
    have kl : k < φ.ks.length := (List.getElem?_eq_some_iff.mp hj).1
    refine ⟨rfl, ?_⟩
    refine ⟨_, rfl, a_MIRRORED, j, _, rfl, rfl, kd j (ok.four j (List.mem_of_getElem? hj)), ?_⟩
    refine ⟨_, e2, smallLt (by rw [List.length_map, List.length_map, List.length_take]; have := ok.len; have := ok.most; omega), g2.later nD, ?_⟩
    rw [upd_same, List.take_add_one, hj, List.map_append, List.map_append]
    rfl
  · rintro H2 ⟨g2, e2⟩
    rw [show (φ.ks.map V.str).length = φ.ks.length from List.length_map .., List.take_length] at e2
    intro x dx nx ndx ne
    have gx : Same H2 (upd (upd H2 dx (.own x)) x (.ins C_Forest dx [])) := (same_new ndx _).trans (same_new (by rw [upd_ne ne.symm]; exact nx) _)
    refine ⟨x, pt, D, ⟨φ.ps, φ.ks.map (swap "first" "last")⟩, dx, rfl, upd_same, .inr (gx _ _ (g2 _ _ h2)), .inl (gx _ _ e2), swap_ok ok (.inr ⟨rfl, rfl⟩), fun H' b' fo => ⟨rfl, q x H' ?_ fo⟩⟩
    intro b u hb
    have hb2 := g2 _ _ hb
    exact b' b u (ne_of_none hb2 nx) (gx _ _ hb2)

/-- the law's own path, a list -/
def spLPath : Sp := fun vs H Q _ => ∃ (a : Addr) (ps : List (Option Nat)) (i : Nat), vs = [.ref a, .int (i : Int)] ∧ H a = some (.lst (ps.map pV)) ∧ Acy ps ∧ ps.length ≤ 1000 ∧ i < ps.length ∧
  ∀ (p : Addr) (H' : Hp), Same H H' → H' p = some (.lst ((path ps i).map nV)) → Q (.ref p) H'
theorem dn_lpath (B : Bts mg) (F : Df K mg "_law_path" s__law_path P__law_path) : Dn P w K mg base 1 "_law_path" spLPath := by
  refine F.ok sc__law_path (fun vs H Q E h => ?_) (fun fa cdv A outer s H vs Q E hr h => ?_)
  · obtain ⟨a, ps, i, rfl, _⟩ := h; rfl
  obtain ⟨a, ps, i, rfl, ha, ac, hn, hi, q⟩ := h
  refine ⟨_, (pss_cons
        (ps_set (i := 2) sc__law_path.nd rfl (.inl rfl) (pe_lst (pa_cons (pv 1) pa_nil)))
        (pss_cons
        (ps_for PassesOwn.never rfl (pi_range1 rfl B.range_ (pa_cons (pe_callB call_len_seq rfl B.len_ PySem.boot_len (pa_cons (pv 0) pa_nil)) pa_nil)) (pg_name (i := 3) sc__law_path.nd rfl (.inl rfl)) (pss_one
          (ps_if (pt_cmpR op_notN (pe_ix ix_list (pv 0) (pe_ix ix_list (pv 2) pe_int (fun _ _ => rfl)) (fun _ _ => rfl)) pe_non (nomark _)) (pss_one
            (ps_expr (pe_bm PySem.F.plainAttrs_list PySem.F.slot_list_insert PySem.F.type_list_insert mt_insert (pv 2) (pa_cons pe_int (pa_cons (pe_ix ix_list (pv 0) (pe_ix ix_list (pv 2) pe_int (fun _ _ => rfl)) (fun _ _ => rfl)) pa_nil))))) pss_nil)))
        (pss_one
        (ps_ret (pv 2))))), ?_⟩
  obtain ⟨r, r1, r2⟩ := ac.rk
  have hri := r1 i hi
  refine ⟨_, rfl, small (by show 1 ≤ 100000; decide), fun D nD => ?_⟩
  have gD := same_new nD (.lst [.int (i : Int)])
  refine ⟨_, rfl, a, _, rfl, .inl (SqL.of (gD _ _ ha)), ps.length, by rw [List.length_map], by omega, by omega, ?_⟩
  refine for_range (lo := 0) (n := ((ps.length : Nat) : Int).toNat) (fun k σ H' => ∃ (j : Nat) (rest : List Nat) (s3 : Option V), σ = [some (.ref a), some (.int (i : Int)), some (.ref D), s3] ∧ Same H H' ∧ H' D = some (.lst ((j :: rest).map nV)) ∧ path ps i = path ps j ++ rest ∧ j < ps.length ∧ (par ps j = none ∨ r j + k ≤ r i))
    ⟨i, [], _, rfl, gD, upd_same, by rw [List.append_nil], hi, .inr (Nat.le_refl _)⟩ ?_ ?_
  · rintro k σ H1 hk ⟨j, rest, s3, rfl, g1, eD, hp, hj, hr⟩
    have hd : atI ((j :: rest).map nV) 0 = some (nV j) := atI_nat (j := 0) rfl
    have ea := g1 _ _ ha
    have ln : rest.length < ps.length := by
      have h1 : (path ps i).length = (path ps j).length + rest.length := by rw [hp, List.length_append]
      have h2 : 0 < (path ps j).length := List.length_pos_iff.mpr (path_ne _ _)
      have h3 := path_len ac hi
      omega
    refine ⟨_, rfl, _, rfl, D, _, _, _, rfl, rfl, SqL.of eD, hd, a, _, _, _, rfl, rfl, SqL.of ea, atI_nat (par_at hj), rfl, _, rfl, ?_⟩
    rw [pV_non]
    cases e : par ps j with
    | none =>
      refine iteF ?_
      exact ⟨j, rest, _, rfl, g1, eD, hp, hj, .inl e⟩
    | some p =>
      refine iteT ?_
      have hp' := r2 e
      have hr' : r j + k ≤ r i := hr.resolve_left (fun z => by rw [e] at z; cases z)
      refine ⟨_, rfl, .inl ⟨rfl, _, SqL.of eD⟩, _, rfl, _, rfl, D, _, _, _, rfl, rfl, SqL.of eD, hd, a, _, _, _, rfl, rfl, SqL.of ea, atI_nat (par_at hj), ?_⟩
      rw [e]
      refine ⟨D, _, 0, _, rfl, rfl, eD, smallLt (by rw [List.length_map, List.length_cons]; omega), by decide, by decide, ?_⟩
      refine ⟨p, j :: rest, _, rfl, g1.later nD, by rw [upd_same]; rfl, ?_, ac.lt e, .inr (by omega)⟩
      rw [hp, path_step ac e, List.append_assoc]
      rfl
  · rintro σ H1 ⟨j, rest, s3, rfl, g1, eD, hp, hj, hr⟩
    have e : par ps j = none := hr.resolve_right (fun z => by have : ((ps.length : Nat) : Int).toNat = ps.length := rfl; omega)
    refine ⟨_, rfl, q D H1 g1 ?_⟩
    rw [hp, path_root e]
    exact eD
def spLWord : Sp := fun vs H Q _ => ∃ (a b : Addr) (ps : List (Option Nat)) (ks : List Str) (i : Nat), vs = [.ref a, .ref b, .int (i : Int)] ∧ H a = some (.lst (ps.map pV)) ∧ H b = some (.lst (ks.map V.str)) ∧ Acy ps ∧ ps.length ≤ 1000 ∧ ks.length = ps.length ∧ i < ps.length ∧
  ∀ (p : Addr) (H' : Hp) (us : List V), Same H H' → H' p = some (.tup us) → PairsAt H' us (wordOf ps ks i) → Q (.ref p) H'
theorem dn_lword (B : Bts mg) (F : Df K mg "_law_word" s__law_word P__law_word) (D__law_path : Dn P w K mg base 1 "_law_path" spLPath) : Dn P w K mg base 2 "_law_word" spLWord := by
  refine F.ok sc__law_word (fun vs H Q E h => ?_) (fun fa cdv A outer s H vs Q E hr h => ?_)
  · obtain ⟨a, b, ps, ks, i, rfl, _⟩ := h; rfl
  obtain ⟨a, b, ps, ks, i, rfl, ha, hb, ac, hn, lk, hi, q⟩ := h
  refine ⟨_, (pss_one
        (ps_ret (pe_callTy call_tuple_of rfl B.tuple_ boot_tuple (pa_cons (pe_lc (own := [("_law_place", 3)]) (g := gName 3) (tt := tYes) rfl sc__law_word.nd (pi_list (My.pe_callD D__law_path (hr.mono (by omega)) rfl (pa_cons (pv 0) (pa_cons (pv 2) pa_nil)))) (blkOk_by (own := [("_law_place", 3)]) (N := N__law_word) (sc := defScope s__law_word) (by decide +kernel)) (fun _ _ _ _ _ => pg_name (i := 3) sc__law_word.nd rfl (.inl rfl)) (fun _ _ _ _ _ => pts_nil) (fun _ _ _ _ _ => (pe_tup (pa_cons (pv 3) (pa_cons (pe_ix (ix_listK (K := K) rfl) (pv 1) (pv 3) (fun _ _ => rfl)) pa_nil))))) pa_nil)))), ?_⟩
  have plen := path_len ac hi
  refine ⟨_, rfl, _, rfl, a, ps, i, rfl, ha, ac, hn, hi, fun p H1 g1 e1 => ?_⟩
  refine ⟨p, rfl, ⟨_, SqL.of e1⟩, fun D nD => ?_⟩
  refine lc_list (a := p) (xs := (path ps i).map nV) (fun k H' => Same H1 H' ∧ ∃ us, H' D = some (.lst us) ∧ us.length = k ∧ PairsAt H' us (((path ps i).take k).map fun j => (j, kindOf ks j))) ⟨same_new nD _, [], upd_same, rfl, .nil⟩ (fun k H' _ ⟨g, _⟩ => SqL.of (g _ _ e1)) ?_ ?_
  · rintro k x H2 hx ⟨g2, us, e2, l2, pr⟩
    rw [List.getElem?_map] at hx
    obtain ⟨j, hj, rfl⟩ := Option.map_eq_some_iff.mp hx
    have kl : k < (path ps i).length := (List.getElem?_eq_some_iff.mp hj).1
    have jl := path_lt ac hi j (List.mem_of_getElem? hj)
    have g12 := g1.trans g2
    refine ⟨rfl, ?_⟩
    refine ⟨_, rfl, _, rfl, _, rfl, b, _, _, _, rfl, rfl, SqL.of (g12 _ _ hb), atI_nat (kind_at (by rw [lk]; exact jl)), ?_⟩
    refine ⟨small (by show 2 ≤ 100000; decide), fun z nz => ?_⟩
    have gz := same_new nz (.tup [nV j, .str (kindOf ks j)])
    have e3 := gz _ _ e2
    refine ⟨us, e3, smallLt (by omega), (g2.trans gz).later nD, us ++ [.ref z], upd_same, by rw [List.length_append, l2]; rfl, ?_⟩
    have et : (path ps i).take (k + 1) = (path ps i).take k ++ [j] := by rw [List.take_add_one, hj]; rfl
    rw [et, List.map_append]
    exact Paired.app (pr.keep fun p xs e => upd_tup e3 (gz _ _ e)) (.cons ⟨z, rfl, upd_tup e3 upd_same⟩ .nil)
  · rintro H2 ⟨g2, us, e2, l2, pr⟩
    rw [show ((path ps i).map nV).length = (path ps i).length from List.length_map .., List.take_length] at pr
    refine ⟨D, _, rfl, .inl ⟨SqL.of e2, fun z nz => ?_⟩⟩
    have gz := same_new nz (.tup us)
    exact q z _ us (g1.trans (g2.trans gz)) upd_same (pr.keep fun p xs e => gz _ _ e)

def spIsInt : Sp := fun vs H Q _ => ∃ i : Int, vs = [.int i] ∧ Q (.bl true) H
theorem dn_isint (B : Bts mg) (F : Df K mg "_law_is_integer" s__law_is_integer P__law_is_integer) : Dn P w K mg base 1 "_law_is_integer" spIsInt := by
  refine F.ok sc__law_is_integer (fun vs H Q E h => ?_) (fun f cdv A outer s H vs Q E hr h => ?_)
  · obtain ⟨i, rfl, _⟩ := h; rfl
  obtain ⟨i, rfl, q⟩ := h
  refine ⟨_, (pss_one
        (ps_ret (pe_and (pe_callB call_isi rfl B.isinstance_ boot_isinstance (pa_cons (pv 0) (pa_cons (pe_bltn (v := .ty "int") rfl B.int_ boot_int rfl) pa_nil))) (pe_one (pe_not (pe_callB call_isi rfl B.isinstance_ boot_isinstance (pa_cons (pv 0) (pa_cons (pe_bltn (v := .ty "bool") rfl B.bool_ boot_bool rfl) pa_nil)))))))), ?_⟩
  refine ⟨_, rfl, _, _, _, _, true, rfl, .ty _, .base (.int _), k_ii, ?_⟩
  refine ⟨_, rfl, ?_⟩
  refine iteT ?_
  exact ⟨_, rfl, _, _, _, _, false, rfl, .ty _, .base (.int _), k_ib, _, rfl, q⟩


/-- a tuple has what a list has: numbers and None -/
def spSameP : Sp := fun vs H Q _ => ∃ (p q : Addr) (os : List (Option Nat)), vs = [.ref p, .ref q] ∧ H p = some (.tup (os.map pV)) ∧ H q = some (.lst (os.map pV)) ∧ os.length ≤ 1000 ∧ Q (.bl true) H
theorem dn_samep (B : Bts mg) (F : Df K mg "_law_same" s__law_same P__law_same) (D__law_is_integer : Dn P w K mg base 1 "_law_is_integer" spIsInt) : Dn P w K mg base 2 "_law_same" spSameP := by
  refine F.ok sc__law_same (fun vs H Q E h => ?_) (fun fa cdv A outer s H vs Q E hr h => ?_)
  · obtain ⟨p, q, os, rfl, _⟩ := h; rfl
  obtain ⟨p, q, os, rfl, hp, hq, hl, fin⟩ := h
  refine ⟨_, (pss_cons
        (ps_if (PW.pt (pw_or (pt_not (pt_val (pe_callB call_isi rfl B.isinstance_ boot_isinstance (pa_cons (pv 0) (pa_cons (pe_bltn (v := .ty "tuple") rfl B.tuple_ boot_tuple rfl) pa_nil))))) (pw_or1 (pt_cmpR op_ne (pe_callB call_len_seq rfl B.len_ PySem.boot_len (pa_cons (pv 0) pa_nil)) (pe_callB call_len_seq rfl B.len_ PySem.boot_len (pa_cons (pv 1) pa_nil)) (nomark _))))) (pss_one
          (ps_ret pe_bl)) pss_nil)
        (pss_cons
        (ps_for PassesOwn.never rfl (pi_range1 rfl B.range_ (pa_cons (pe_callB call_len_seq rfl B.len_ PySem.boot_len (pa_cons (pv 1) pa_nil)) pa_nil)) (pg_name (i := 2) sc__law_same.nd rfl (.inl rfl)) (pss_one
          (ps_if (pt_cmpR op_isN (pe_ix ix_list (pv 1) (pv 2) (fun _ _ => rfl)) pe_non (nomark _)) (pss_one
            (ps_if (pt_cmpR op_notN (pe_ix ix_tup (pv 0) (pv 2) (fun _ _ => rfl)) pe_non (nomark _)) (pss_one
              (ps_ret pe_bl)) pss_nil)) (pss_one
            (ps_if (PW.pt (pw_or (pt_not (pt_val (My.pe_callD D__law_is_integer (hr.mono (by omega)) rfl (pa_cons (pe_ix ix_tup (pv 0) (pv 2) (fun _ _ => rfl)) pa_nil)))) (pw_or1 (pt_cmpR op_ne (pe_ix ix_tup (pv 0) (pv 2) (fun _ _ => rfl)) (pe_ix ix_list (pv 1) (pv 2) (fun _ _ => rfl)) (nomark _))))) (pss_one
              (ps_ret pe_bl)) pss_nil)))))
        (pss_one
        (ps_ret pe_bl)))), ?_⟩
  refine ⟨_, rfl, _, _, _, _, true, rfl, .ty _, .base (.tup hp), k_tt, ?_⟩
  refine ⟨_, rfl, ?_⟩
  refine iteF ?_
  refine ⟨_, rfl, p, _, rfl, .inr (SqT.of hp), _, rfl, q, _, rfl, .inl (SqL.of hq), rfl, _, rfl, ?_⟩
  refine iteNS rfl ?_
  refine ⟨_, rfl, q, _, rfl, .inl (SqL.of hq), os.length, by rw [List.length_map], by omega, by omega, ?_⟩
  refine for_range (lo := 0) (n := ((os.length : Nat) : Int).toNat) (fun k σ H' => H' = H ∧ ∃ s2, σ = [some (.ref p), some (.ref q), s2]) ⟨rfl, _, rfl⟩ ?_ ?_
  · rintro k σ H' hk ⟨rfl, s2, rfl⟩
    have hk : k < os.length := hk
    rw [Int.zero_add]
    have hat : (os.map pV)[k]? = some (pV os[k]) := by rw [List.getElem?_map, List.getElem?_eq_getElem hk]; rfl
    refine ⟨_, rfl, _, rfl, q, _, _, _, rfl, rfl, SqL.of hq, atI_nat hat, rfl, _, rfl, ?_⟩
    rw [pV_non]
    cases e : os[k] with
    | none =>
      rw [e] at hat
      refine iteT ?_
      refine ⟨_, rfl, _, rfl, p, _, _, _, rfl, rfl, SqT.of hp, atI_nat hat, rfl, _, rfl, ?_⟩
      refine iteF ?_
      exact ⟨rfl, _, rfl⟩
    | some x =>
      rw [e] at hat
      refine iteF ?_
      refine ⟨_, rfl, _, rfl, p, _, _, _, rfl, rfl, SqT.of hp, atI_nat hat, (x : Int), rfl, ?_⟩
      refine ⟨_, rfl, ?_⟩
      refine iteF ?_
      refine ⟨_, rfl, _, rfl, p, _, _, _, rfl, rfl, SqT.of hp, atI_nat hat, _, rfl, _, rfl, q, _, _, _, rfl, rfl, SqL.of hq, atI_nat hat, rfl, _, rfl, ?_⟩
      refine iteNS rfl ?_
      exact ⟨rfl, _, rfl⟩
  · rintro σ H' ⟨rfl, s2, rfl⟩
    exact fin
/-- a tuple has the texts of a list -/
def spTexts : Sp := fun vs H Q _ => ∃ (p q : Addr) (ks : List Str), vs = [.ref p, .ref q] ∧ H p = some (.tup (ks.map V.str)) ∧ H q = some (.lst (ks.map V.str)) ∧ ks.length ≤ 1000 ∧ Q (.bl true) H
theorem dn_texts (B : Bts mg) (F : Df K mg "_law_texts" s__law_texts P__law_texts) : Dn P w K mg base 1 "_law_texts" spTexts := by
  refine F.ok sc__law_texts (fun vs H Q E h => ?_) (fun fa cdv A outer s H vs Q E hr h => ?_)
  · obtain ⟨p, q, ks, rfl, _⟩ := h; rfl
  obtain ⟨p, q, ks, rfl, hp, hq, hl, fin⟩ := h
  refine ⟨_, (pss_cons
        (ps_if (PW.pt (pw_or (pt_not (pt_val (pe_callB call_isi rfl B.isinstance_ boot_isinstance (pa_cons (pv 0) (pa_cons (pe_bltn (v := .ty "tuple") rfl B.tuple_ boot_tuple rfl) pa_nil))))) (pw_or1 (pt_cmpR op_ne (pe_callB call_len_seq rfl B.len_ PySem.boot_len (pa_cons (pv 0) pa_nil)) (pe_callB call_len_seq rfl B.len_ PySem.boot_len (pa_cons (pv 1) pa_nil)) (nomark _))))) (pss_one
          (ps_ret pe_bl)) pss_nil)
        (pss_cons
        (ps_for PassesOwn.never rfl (pi_range1 rfl B.range_ (pa_cons (pe_callB call_len_seq rfl B.len_ PySem.boot_len (pa_cons (pv 1) pa_nil)) pa_nil)) (pg_name (i := 2) sc__law_texts.nd rfl (.inl rfl)) (pss_one
          (ps_if (PW.pt (pw_or (pt_not (pt_val (pe_callB call_isi rfl B.isinstance_ boot_isinstance (pa_cons (pe_ix ix_tup (pv 0) (pv 2) (fun _ _ => rfl)) (pa_cons (pe_bltn (v := .ty "str") rfl B.str_ boot_str rfl) pa_nil))))) (pw_or1 (pt_cmpR op_ne (pe_ix ix_tup (pv 0) (pv 2) (fun _ _ => rfl)) (pe_ix ix_list (pv 1) (pv 2) (fun _ _ => rfl)) (nomark _))))) (pss_one
            (ps_ret pe_bl)) pss_nil)))
        (pss_one
        (ps_ret pe_bl)))), ?_⟩
  refine ⟨_, rfl, _, _, _, _, true, rfl, .ty _, .base (.tup hp), k_tt, ?_⟩
  refine ⟨_, rfl, ?_⟩
  refine iteF ?_
  refine ⟨_, rfl, p, _, rfl, .inr (SqT.of hp), _, rfl, q, _, rfl, .inl (SqL.of hq), rfl, _, rfl, ?_⟩
  refine iteNS rfl ?_
  refine ⟨_, rfl, q, _, rfl, .inl (SqL.of hq), ks.length, by rw [List.length_map], by omega, by omega, ?_⟩
  refine for_range (lo := 0) (n := ((ks.length : Nat) : Int).toNat) (fun k σ H' => H' = H ∧ ∃ s2, σ = [some (.ref p), some (.ref q), s2]) ⟨rfl, _, rfl⟩ ?_ ?_
  · rintro k σ H' hk ⟨rfl, s2, rfl⟩
    have hk : k < ks.length := hk
    rw [Int.zero_add]
    have hat : (ks.map V.str)[k]? = some (.str ks[k]) := by rw [List.getElem?_map, List.getElem?_eq_getElem hk]; rfl
    refine ⟨_, rfl, _, rfl, p, _, _, _, rfl, rfl, SqT.of hp, atI_nat hat, _, _, _, _, true, rfl, .ty _, .base (.str _), k_ss, ?_⟩
    refine ⟨_, rfl, ?_⟩
    refine iteF ?_
    refine ⟨_, rfl, _, rfl, p, _, _, _, rfl, rfl, SqT.of hp, atI_nat hat, _, rfl, _, rfl, q, _, _, _, rfl, rfl, SqL.of hq, atI_nat hat, rfl, _, rfl, ?_⟩
    refine iteNS rfl ?_
    exact ⟨rfl, _, rfl⟩
  · rintro σ H' ⟨rfl, s2, rfl⟩
    exact fin
/-- two words are the same -/
theorem PairAt.dp {H : Hp} {v : V} {x : Nat × Str} (h : PairAt H v x) : Dp K H v (.tuple [.int x.1, .str x.2]) := by
  obtain ⟨p, rfl, h⟩ := h
  exact .tup (SqT.of h) (.cons (.int _) (.cons (.str _) .nil))
def spSameW : Sp := fun vs H Q _ => ∃ (p q : Addr) (us ws : List V) (xs : List (Nat × Str)), vs = [.ref p, .ref q] ∧ H p = some (.tup us) ∧ H q = some (.tup ws) ∧ PairsAt H us xs ∧ PairsAt H ws xs ∧ xs.length ≤ 1000 ∧ Words (xs.map Prod.snd) ∧ Q (.bl true) H
theorem dn_samew (B : Bts mg) (F : Df K mg "_law_same_word" s__law_same_word P__law_same_word) (D__law_is_integer : Dn P w K mg base 1 "_law_is_integer" spIsInt) : Dn P w K mg base 2 "_law_same_word" spSameW := by
  refine F.ok sc__law_same_word (fun vs H Q E h => ?_) (fun fa cdv A outer s H vs Q E hr h => ?_)
  · obtain ⟨p, q, us, ws, xs, rfl, _⟩ := h; rfl
  obtain ⟨p, q, us, ws, xs, rfl, hp, hq, pu, pw, hl, hw, fin⟩ := h
  refine ⟨_, (pss_cons
        (ps_if (PW.pt (pw_or (pt_not (pt_val (pe_callB call_isi rfl B.isinstance_ boot_isinstance (pa_cons (pv 0) (pa_cons (pe_bltn (v := .ty "tuple") rfl B.tuple_ boot_tuple rfl) pa_nil))))) (pw_or1 (pt_cmpR op_ne (pe_callB call_len_seq rfl B.len_ PySem.boot_len (pa_cons (pv 0) pa_nil)) (pe_callB call_len_seq rfl B.len_ PySem.boot_len (pa_cons (pv 1) pa_nil)) (nomark _))))) (pss_one
          (ps_ret pe_bl)) pss_nil)
        (pss_cons
        (ps_for PassesOwn.never rfl (pi_range1 rfl B.range_ (pa_cons (pe_callB call_len_seq rfl B.len_ PySem.boot_len (pa_cons (pv 1) pa_nil)) pa_nil)) (pg_name (i := 2) sc__law_same_word.nd rfl (.inl rfl)) (pss_cons
          (ps_set (i := 3) sc__law_same_word.nd rfl (.inl rfl) (pe_ix ix_tup (pv 0) (pv 2) (fun _ _ => rfl)))
          (pss_cons
          (ps_if (PW.pt (pw_or (pt_not (pt_val (pe_callB call_isi rfl B.isinstance_ boot_isinstance (pa_cons (pv 3) (pa_cons (pe_bltn (v := .ty "tuple") rfl B.tuple_ boot_tuple rfl) pa_nil))))) (pw_or (pt_cmpR op_ne (pe_callB call_len_seq rfl B.len_ PySem.boot_len (pa_cons (pv 3) pa_nil)) pe_int (nomark _)) (pw_or1 (pt_not (pt_val (pe_callB call_isi rfl B.isinstance_ boot_isinstance (pa_cons (pe_ix ix_tup (pv 3) pe_int (fun _ _ => rfl)) (pa_cons (pe_bltn (v := .ty "str") rfl B.str_ boot_str rfl) pa_nil))))))))) (pss_one
            (ps_ret pe_bl)) pss_nil)
          (pss_one
          (ps_if (PW.pt (pw_or (pt_not (pt_val (My.pe_callD D__law_is_integer (hr.mono (by omega)) rfl (pa_cons (pe_ix ix_tup (pv 3) pe_int (fun _ _ => rfl)) pa_nil)))) (pw_or1 (pt_cmpR (op_neD hr.units) (pv 3) (pe_ix ix_tup (pv 1) (pv 2) (fun _ _ => rfl)) (nomark _))))) (pss_one
            (ps_ret pe_bl)) pss_nil)))))
        (pss_one
        (ps_ret pe_bl)))), ?_⟩
  have lu : us.length = xs.length := Paired.length pu
  have lw : ws.length = xs.length := Paired.length pw
  refine ⟨_, rfl, _, _, _, _, true, rfl, .ty _, .base (.tup hp), k_tt, ?_⟩
  refine ⟨_, rfl, ?_⟩
  refine iteF ?_
  refine ⟨_, rfl, p, _, rfl, .inr (SqT.of hp), _, rfl, q, _, rfl, .inr (SqT.of hq), rfl, _, rfl, ?_⟩
  rw [lu, lw]
  refine iteNS rfl ?_
  refine ⟨_, rfl, q, _, rfl, .inr (SqT.of hq), xs.length, by rw [lw], by omega, by omega, ?_⟩
  refine for_range (lo := 0) (n := ((xs.length : Nat) : Int).toNat) (fun k σ H' => H' = H ∧ ∃ s2 s3, σ = [some (.ref p), some (.ref q), s2, s3]) ⟨rfl, _, _, rfl⟩ ?_ ?_
  · rintro k σ H' hk ⟨rfl, s2, s3, rfl⟩
    have hk : k < xs.length := hk
    rw [Int.zero_add]
    have hku : us[k]? = some us[k] := List.getElem?_eq_getElem (by omega)
    have hkw : ws[k]? = some ws[k] := List.getElem?_eq_getElem (by omega)
    obtain ⟨x, hx, pxu⟩ := Paired.at pu hku
    obtain ⟨x', hx', pxw⟩ := Paired.at pw hkw
    obtain rfl : x' = x := by rw [hx] at hx'; exact (Option.some.inj hx').symm
    obtain ⟨a, ea, ha⟩ := id pxu
    refine ⟨_, rfl, _, rfl, p, _, _, _, rfl, rfl, SqT.of hp, atI_nat hku, ?_⟩
    rw [ea]
    refine ⟨_, rfl, _, _, _, _, true, rfl, .ty _, .base (.tup ha), k_tt, ?_⟩
    refine ⟨_, rfl, ?_⟩
    refine iteF ?_
    refine ⟨_, rfl, a, _, rfl, .inr (SqT.of ha), rfl, _, rfl, ?_⟩
    refine iteNS rfl ?_
    have h1 : atI [nV x'.1, .str x'.2] 1 = some (.str x'.2) := rfl
    have h0 : atI [nV x'.1, .str x'.2] 0 = some (nV x'.1) := rfl
    refine ⟨_, rfl, a, _, _, _, rfl, rfl, SqT.of ha, h1, _, _, _, _, true, rfl, .ty _, .base (.str _), k_ss, ?_⟩
    refine ⟨_, rfl, ?_⟩
    refine iteF ?_
    refine ⟨_, rfl, a, _, _, _, rfl, rfl, SqT.of ha, h0, (x'.1 : Int), rfl, ?_⟩
    refine ⟨_, rfl, ?_⟩
    refine iteF ?_
    have cn : (PyData.tuple [.int x'.1, .str x'.2]).canLay0 = true := by
      have c : (PyData.str x'.2).canLay0 = true := by
        rcases hw x'.2 (List.mem_map.mpr ⟨x', List.mem_of_getElem? hx', rfl⟩) with z | z | z | z <;> rw [z] <;> decide +kernel
      simp only [PyData.canLay0, PyData.canLayAll0, Bool.and_true, Bool.true_and] at c ⊢
      exact c
    have sh : SeqAt.shaped (.tuple [.int x'.1, .str x'.2]) = true ∧ (PyData.tuple [.int x'.1, .str x'.2]).canLay0 = true := by
      refine ⟨?_, cn⟩
      unfold SeqAt.shaped
      rw [cn]
      rfl
    refine ⟨_, rfl, _, rfl, _, rfl, q, _, _, _, rfl, rfl, SqT.of hq, atI_nat hkw, .tuple [.int x'.1, .str x'.2], .tuple [.int x'.1, .str x'.2], PairAt.dp ⟨a, rfl, ha⟩, PairAt.dp pxw, sh.1, sh.1, _, rfl, ?_⟩
    rw [SeqAt.eqv_refl _ sh.2]
    refine iteF ?_
    exact ⟨rfl, _, _, rfl⟩
  · rintro σ H' ⟨rfl, s2, s3, rfl⟩
    exact fin

theorem nats_pV (l : List Nat) : (l.map some).map pV = l.map nV := by rw [List.map_map]; rfl
/-- a forest shows what it was made of -/
def spShown (C : Addr) : Sp := fun vs H Q _ => ∃ (a p q : Addr) (φ : Fo), vs = [.ref a, .ref p, .ref q] ∧ FoAt C H a φ ∧ H p = some (.lst (φ.ps.map pV)) ∧ H q = some (.lst (φ.ks.map V.str)) ∧ φ.Ok ∧ Q (.bl true) H
theorem dn_shown (B : Bts mg) (T_Forest : TForest K mg C_Forest) (F : Df K mg "_law_shown" s__law_shown P__law_shown) (D__law_is_integer : Dn P w K mg base 1 "_law_is_integer" spIsInt) (D__law_same : Dn P w K mg base 2 "_law_same" spSameP)
    (D__law_texts : Dn P w K mg base 1 "_law_texts" spTexts) : Dn P w K mg base 3 "_law_shown" (spShown C_Forest) := by
  refine F.ok sc__law_shown (fun vs H Q E h => ?_) (fun fa cdv A outer s H vs Q E hr h => ?_)
  · obtain ⟨a, p, q, φ, rfl, _⟩ := h; rfl
  obtain ⟨a, p, q, φ, rfl, ⟨dx, pt, kt, h1, h2, h3⟩, hp, hq, ok, fin⟩ := h
  refine ⟨_, (pss_cons
        (ps_if (PW.pt (pw_or (pt_not (pt_val (My.pe_callD D__law_is_integer (hr.mono (by omega)) rfl (pa_cons (pe_fld (pv 0) rfl) pa_nil)))) (pw_or1 (pt_cmpR op_ne (pe_fld (pv 0) rfl) (pe_callB call_len_seq rfl B.len_ PySem.boot_len (pa_cons (pv 1) pa_nil)) (nomark _))))) (pss_one
          (ps_ret pe_bl)) pss_nil)
        (pss_one
        (ps_ret (pe_and (My.pe_callD D__law_same (hr.mono (by omega)) rfl (pa_cons (pe_fld (pv 0) rfl) (pa_cons (pv 1) pa_nil))) (pe_one (My.pe_callD D__law_texts (hr.mono (by omega)) rfl (pa_cons (pe_fld (pv 0) rfl) (pa_cons (pv 2) pa_nil)))))))), ?_⟩
  have lk := ok.len
  have ml := ok.most
  refine ⟨_, rfl, a, C_Forest, dx, _, _, rfl, h1, T_Forest.cl, T_Forest.n_fields, rfl, _, rfl, ?_⟩
  refine ⟨_, rfl, ?_⟩
  refine iteF ?_
  refine ⟨_, rfl, a, C_Forest, dx, _, _, rfl, h1, T_Forest.cl, T_Forest.n_fields, rfl, _, rfl, p, _, rfl, .inl (SqL.of hp), ?_⟩
  rw [List.length_map]
  refine ⟨rfl, _, rfl, ?_⟩
  refine iteNS rfl ?_
  refine ⟨_, rfl, a, C_Forest, dx, _, _, rfl, h1, T_Forest.cl, T_Forest.n_parents, rfl, _, rfl, pt, p, φ.ps, rfl, h2, hp, by omega, ?_⟩
  refine ⟨_, rfl, ?_⟩
  refine iteT ?_
  refine ⟨_, rfl, a, C_Forest, dx, _, _, rfl, h1, T_Forest.cl, T_Forest.n_kinds, rfl, _, rfl, kt, q, φ.ks, rfl, h3, hq, by omega, ?_⟩
  exact fin
def PathsAt (ps : List (Option Nat)) (H : Hp) (us : List V) (is : List Nat) : Prop := Paired (fun v i => ∃ p, v = .ref p ∧ H p = some (.lst ((path ps i).map nV))) us is
def spFits (C : Addr) : Sp := fun vs H Q _ => ∃ (a p q : Addr) (φ : Fo), vs = [.ref a, .ref p, .ref q] ∧ FoAt C H a φ ∧ H p = some (.lst (φ.ps.map pV)) ∧ H q = some (.lst (φ.ks.map V.str)) ∧ φ.Ok ∧ ∀ H', Same H H' → Q (.bl true) H'
theorem dn_fits (B : Bts mg) (T_Forest : TForest K mg C_Forest) (F : Df K mg "_law_fits" s__law_fits P__law_fits) (D__law_shown : Dn P w K mg base 3 "_law_shown" (spShown C_Forest)) (D__law_same : Dn P w K mg base 2 "_law_same" spSameP)
    (D__law_same_word : Dn P w K mg base 2 "_law_same_word" spSameW) (D__law_path : Dn P w K mg base 1 "_law_path" spLPath) (D__law_word : Dn P w K mg base 2 "_law_word" spLWord)
    (D_Forest__roots : DnP P w K mg base 1 C_Forest "roots" (spSift C_Forest isRoot)) (D_Forest__leaves : DnP P w K mg base 1 C_Forest "leaves" (spSift C_Forest isLeaf)) (D_Forest__fair : DnP P w K mg base 1 C_Forest "fair" (spFair C_Forest))
    (D_Forest__children : DnM P w K mg base 1 C_Forest "children" (spChildren C_Forest)) (D_Forest__path : DnM P w K mg base 1 C_Forest "path" (spPath C_Forest)) (D_Forest__word : DnM P w K mg base 2 C_Forest "word" (spWord C_Forest)) (D_Forest__beneath : DnM P w K mg base 2 C_Forest "beneath" (spBeneath C_Forest)) :
    Dn P w K mg base 4 "_law_fits" (spFits C_Forest) := by
  refine F.ok sc__law_fits (fun vs H Q E h => ?_) (fun fa cdv A outer s H vs Q E hr h => ?_)
  · obtain ⟨a, p, q, φ, rfl, _⟩ := h; rfl
  obtain ⟨a, p, q, φ, rfl, hA, hp, hq, ok, fin⟩ := h
  refine ⟨_, (pss_cons
        (ps_set (i := 3) sc__law_fits.nd rfl (.inl rfl) (pe_callB call_len_seq rfl B.len_ PySem.boot_len (pa_cons (pv 1) pa_nil)))
        (pss_cons
        (ps_if (pt_not (pt_val (My.pe_callD D__law_shown (hr.mono (by omega)) rfl (pa_cons (pv 0) (pa_cons (pv 1) (pa_cons (pv 2) pa_nil)))))) (pss_one
          (ps_ret pe_bl)) pss_nil)
        (pss_cons
        (ps_setLc (i := 4) (own := [("_law_field", 5)]) (g := gName 5) rfl sc__law_fits.nd rfl rfl (sw_true rfl rfl rfl (by decide +kernel)) (pi_range1 rfl B.range_ (pa_cons (pv 3) pa_nil)) (blkOk_by (own := [("_law_field", 5)]) (N := N__law_fits) (sc := defScope s__law_fits) (by decide +kernel)) (fun _ _ _ _ _ => pg_name (i := 5) sc__law_fits.nd rfl (.inl rfl)) (fun _ _ _ _ _ => (pts_one (pt_cmpR op_isN (pe_ix (ix_listK (K := K) rfl) (pv 1) (pv 5) (fun _ _ => rfl)) pe_non (nomark _)))) (fun _ _ _ _ _ => (pv 5)))
        (pss_cons
        (ps_set (i := 6) sc__law_fits.nd rfl (.inl rfl) (pe_and (pe_cmpR op_notIn_seq pe_str (pv 2) (by rfl)) (pe_one (pe_cmpR op_notIn_seq pe_str (pv 2) (by rfl)))))
        (pss_cons
        (ps_if (PW.pt (pw_or (pt_not (pt_val (My.pe_callD D__law_same (hr.mono (by omega)) rfl (pa_cons (pe_propD D_Forest__roots T_Forest.cl (hr.mono (by omega)) (pv 0) rfl) (pa_cons (pv 4) pa_nil))))) (pw_or1 (pt_not (pt_val (My.pe_callD D__law_same (hr.mono (by omega)) rfl (pa_cons (pe_callM D_Forest__children T_Forest.cl (hr.mono (by omega)) (pv 0) (pa_cons pe_non pa_nil)) (pa_cons (pv 4) pa_nil)))))))) (pss_one
          (ps_ret pe_bl)) pss_nil)
        (pss_cons
        (ps_if (pt_not (pt_val (My.pe_callD D__law_same (hr.mono (by omega)) rfl (pa_cons (pe_propD D_Forest__leaves T_Forest.cl (hr.mono (by omega)) (pv 0) rfl) (pa_cons (pe_lc (own := [("_law_field", 5)]) (g := gName 5) rfl sc__law_fits.nd (pi_range1 rfl B.range_ (pa_cons (pv 3) pa_nil)) (blkOk_by (own := [("_law_field", 5)]) (N := N__law_fits) (sc := defScope s__law_fits) (by decide +kernel)) (fun _ _ _ _ _ => pg_name (i := 5) sc__law_fits.nd rfl (.inl rfl)) (fun _ _ _ _ _ => (pts_one (pt_cmpR (notIn_seqK (K := K) rfl) (pv 5) (pv 1) (by rfl)))) (fun _ _ _ _ _ => (pv 5))) pa_nil))))) (pss_one
          (ps_ret pe_bl)) pss_nil)
        (pss_cons
        (ps_if (PW.pt (pw_or (pt_not (pt_val (pe_callB call_isi rfl B.isinstance_ boot_isinstance (pa_cons (pe_propD D_Forest__fair T_Forest.cl (hr.mono (by omega)) (pv 0) rfl) (pa_cons (pe_bltn (v := .ty "bool") rfl B.bool_ boot_bool rfl) pa_nil))))) (pw_or1 (pt_cmpR op_ne (pe_propD D_Forest__fair T_Forest.cl (hr.mono (by omega)) (pv 0) rfl) (pv 6) (nomark _))))) (pss_one
          (ps_ret pe_bl)) pss_nil)
        (pss_cons
        (ps_set (i := 7) sc__law_fits.nd rfl (.inr rfl) (pe_lc (own := [("_law_field", 5)]) (g := gName 5) (tt := tYes) rfl sc__law_fits.nd (pi_range1 rfl B.range_ (pa_cons (pv 3) pa_nil)) (blkOk_by (own := [("_law_field", 5)]) (N := N__law_fits) (sc := defScope s__law_fits) (by decide +kernel)) (fun _ _ _ _ _ => pg_name (i := 5) sc__law_fits.nd rfl (.inl rfl)) (fun _ _ _ _ _ => pts_nil) (fun _ _ _ _ _ => (My.pe_callD D__law_path (hr.mono (by omega)) rfl (pa_cons (pv 1) (pa_cons (pv 5) pa_nil))))))
        (pss_cons
        (ps_for PassesOwn.never rfl (pi_range1 rfl B.range_ (pa_cons (pv 3) pa_nil)) (pg_name (i := 5) sc__law_fits.nd rfl (.inr rfl)) (pss_cons
          (ps_if (pt_not (pt_val (My.pe_callD D__law_same (hr.mono (by omega)) rfl (pa_cons (pe_callM D_Forest__path T_Forest.cl (hr.mono (by omega)) (pv 0) (pa_cons (pv 5) pa_nil)) (pa_cons (pe_ix ix_list (pv 7) (pv 5) (fun _ _ => rfl)) pa_nil))))) (pss_one
            (ps_ret pe_bl)) pss_nil)
          (pss_cons
          (ps_if (pt_not (pt_val (My.pe_callD D__law_same_word (hr.mono (by omega)) rfl (pa_cons (pe_callM D_Forest__word T_Forest.cl (hr.mono (by omega)) (pv 0) (pa_cons (pv 5) pa_nil)) (pa_cons (My.pe_callD D__law_word (hr.mono (by omega)) rfl (pa_cons (pv 1) (pa_cons (pv 2) (pa_cons (pv 5) pa_nil)))) pa_nil))))) (pss_one
            (ps_ret pe_bl)) pss_nil)
          (pss_cons
          (ps_if (pt_not (pt_val (My.pe_callD D__law_same (hr.mono (by omega)) rfl (pa_cons (pe_callM D_Forest__children T_Forest.cl (hr.mono (by omega)) (pv 0) (pa_cons (pv 5) pa_nil)) (pa_cons (pe_lc (own := [("_law_other", 8)]) (g := gName 8) rfl sc__law_fits.nd (pi_range1 rfl B.range_ (pa_cons (pv 3) pa_nil)) (blkOk_by (own := [("_law_other", 8)]) (N := N__law_fits) (sc := defScope s__law_fits) (by decide +kernel)) (fun _ _ _ _ _ => pg_name (i := 8) sc__law_fits.nd rfl (.inl rfl)) (fun _ _ _ _ _ => (pts_one (pt_cmpR op_eq (pe_ix (ix_listK (K := K) rfl) (pv 1) (pv 8) (fun _ _ => rfl)) (pv 5) (nomark _)))) (fun _ _ _ _ _ => (pv 8))) pa_nil))))) (pss_one
            (ps_ret pe_bl)) pss_nil)
          (pss_cons
          (ps_setLc (i := 9) (own := [("_law_other", 8)]) (g := gName 8) rfl sc__law_fits.nd rfl rfl (sw_true rfl rfl rfl (by decide +kernel)) (pi_range1 rfl B.range_ (pa_cons (pv 3) pa_nil)) (blkOk_by (own := [("_law_other", 8)]) (N := N__law_fits) (sc := defScope s__law_fits) (by decide +kernel)) (fun _ _ _ _ _ => pg_name (i := 8) sc__law_fits.nd rfl (.inl rfl)) (fun _ _ _ _ _ => (pts_one (PW.pt (pw_and (pt_cmpR op_ne (pv 8) (pv 5) (nomark _)) (pw_and1 (pt_cmpR (in_seqK (K := K) rfl) (pv 5) (pe_ix (ix_listK (K := K) rfl) (pv 7) (pv 8) (fun _ _ => rfl)) (by rfl))))))) (fun _ _ _ _ _ => (pv 8)))
          (pss_one
          (ps_if (pt_not (pt_val (My.pe_callD D__law_same (hr.mono (by omega)) rfl (pa_cons (pe_callM D_Forest__beneath T_Forest.cl (hr.mono (by omega)) (pv 0) (pa_cons (pv 5) pa_nil)) (pa_cons (pv 9) pa_nil))))) (pss_one
            (ps_ret pe_bl)) pss_nil)))))))
        (pss_one
        (ps_ret pe_bl))))))))))), ?_⟩
  obtain ⟨lk, pos, ml, ac, four, leaf⟩ := id ok
  refine ⟨_, rfl, p, _, rfl, .inl (SqL.of hp), ?_⟩
  rw [List.length_map]
  refine ⟨_, rfl, _, rfl, _, rfl, a, p, q, φ, rfl, hA, hp, hq, ok, ?_⟩
  refine ⟨_, rfl, ?_⟩
  refine iteF ?_
  dsimp only [tNext, gName]
  refine lc_filter_set (n := φ.ps.length) (isRoot φ) (by omega) (fun R h => ⟨_, rfl, _, rfl, by omega, by omega, h⟩) (by exact fun _ => rfl) (by exact fun _ => rfl) (fun k H' R hk g h => ?_) fun D1 H1 g1 e1 => ?_
  · refine ⟨_, rfl, _, rfl, p, _, _, _, rfl, rfl, SqL.of (g _ _ hp), atI_nat (par_at hk), rfl, _, rfl, ?_⟩
    rw [pV_non]
    exact h H' (Same.refl _)
  have hA1 := hA.same g1
  obtain ⟨dx, pt, kt, h1, h2, h3⟩ := id hA
  refine st_split (t := tAsg _ _) (fun σ' H' => σ' = [some (.ref a), some (.ref p), some (.ref q), some (.int (φ.ps.length : Int)), some (.ref D1), none, some (.bl (isFair φ.ks)), none, none, none] ∧ H' = H1) (fun D' hD' => ?_) ?_
  · refine ⟨_, rfl, q, _, rfl, .inl (SqL.of (g1 _ _ hq)), rfl, My.flat_strs φ.ks, _, rfl, ?_⟩
    show if (!inV (.str "first") (φ.ks.map V.str)) = true then _ else _
    rw [inV_strs]
    unfold isFair at hD'
    by_cases c : ("first" : Str) ∈ φ.ks
    · rw [decide_eq_true c] at hD' ⊢
      exact hD' _ _ ⟨rfl, rfl⟩
    · rw [decide_eq_false c] at hD' ⊢
      refine iteT ?_
      refine ⟨_, rfl, q, _, rfl, .inl (SqL.of (g1 _ _ hq)), rfl, My.flat_strs φ.ks, ?_⟩
      show D'.nx ([some (V.ref a), some (V.ref p), some (V.ref q), some (V.int (φ.ps.length : Int)), some (.ref D1), none, none, none, none, none].set 6 (some (V.bl (!inV (.str "last") (φ.ks.map V.str))))) H1
      rw [inV_strs]
      exact hD' _ _ ⟨rfl, rfl⟩
  rintro σ' H' ⟨rfl, rfl⟩
  have flen : ∀ f : Nat → Bool, (((List.range φ.ps.length).filter f).map some).length ≤ 1000 := fun f => by
    have := List.length_filter_le f (List.range φ.ps.length)
    rw [List.length_range] at this
    rw [List.length_map]; omega
  refine ⟨_, rfl, a, dx, _, rfl, g1 _ _ h1, a, φ, rfl, hA1, ac, by omega, fun p2 H2 g2 e2 => ?_⟩
  refine ⟨_, rfl, p2, D1, ((List.range φ.ps.length).filter (isRoot φ)).map some, rfl, by rw [nats_pV]; exact e2, by rw [nats_pV]; exact g2 _ _ e1, flen _, ?_⟩
  refine ⟨_, rfl, ?_⟩
  refine iteF ?_
  have g12 := g1.trans g2
  refine ⟨_, rfl, a, dx, _, rfl, g12 _ _ h1, rfl, a, φ, none, rfl, hA.same g12, ac, by omega, fun p3 H3 g3 e3 => ?_⟩
  refine ⟨_, rfl, p3, D1, ((List.range φ.ps.length).filter (isRoot φ)).map some, rfl, by rw [nats_pV]; exact e3, by rw [nats_pV]; exact g3 _ _ (g2 _ _ e1), flen _, ?_⟩
  refine ⟨_, rfl, ?_⟩
  refine iteF ?_
  have g13 := g12.trans g3
  refine ⟨_, rfl, a, dx, _, rfl, g13 _ _ h1, a, φ, rfl, hA.same g13, ac, by omega, fun p4 H4 g4 e4 => ?_⟩
  have g14 := g13.trans g4
  dsimp only [tCons, tNil]
  refine lc_filter (n := φ.ps.length) (isLeaf φ) (by omega) (fun R h => ⟨_, rfl, _, rfl, by omega, by omega, h⟩) (by exact fun _ => rfl) (by exact fun _ => rfl) (fun k H' R hk g h => ?_) fun D5 H5 g5 e5 => ?_
  · refine ⟨_, rfl, _, rfl, p, _, rfl, .inl (SqL.of (g _ _ (g14 _ _ hp))), rfl, flat_par φ.ps, _, rfl, ?_⟩
    show R (!inV (.int (k : Int)) (φ.ps.map pV)) H'
    rw [inV_par]
    exact h H' (Same.refl _)
  refine ⟨p4, D5, ((List.range φ.ps.length).filter (isLeaf φ)).map some, rfl, by rw [nats_pV]; exact g5 _ _ e4, by rw [nats_pV]; exact e5, flen _, ?_⟩
  refine ⟨_, rfl, ?_⟩
  refine iteF ?_
  have g15 := g14.trans g5
  have hA5 := hA.same g15
  refine ⟨_, rfl, a, dx, _, rfl, g15 _ _ h1, a, φ, rfl, hA5, _, _, _, _, true, rfl, .ty _, .base (.bl _), k_bb, ?_⟩
  refine ⟨_, rfl, ?_⟩
  refine iteF ?_
  refine ⟨_, rfl, a, dx, _, rfl, g15 _ _ h1, a, φ, rfl, hA5, _, rfl, rfl, _, rfl, ?_⟩
  refine iteNS rfl ?_
  refine ⟨_, rfl, _, rfl, by omega, by omega, fun D6 n6 => ?_⟩
  refine lc_range (lo := 0) (n := ((φ.ps.length : Nat) : Int).toNat) (fun i H' => ∃ us, H' D6 = some (.lst us) ∧ us.length = i ∧ (∀ v ∈ us, ∃ z, v = .ref z) ∧ PathsAt φ.ps H' us (List.range i) ∧ Same H5 H') ⟨[], upd_same, rfl, (fun _ h => nomatch h), .nil, same_new n6 _⟩ ?_ ?_
  · rintro i H6 hi ⟨us, e6, l6, r6, pr, g6⟩
    have hi : i < φ.ps.length := hi
    rw [Int.zero_add]
    refine ⟨rfl, ?_⟩
    refine ⟨_, rfl, _, rfl, p, φ.ps, i, rfl, g6 _ _ (g15 _ _ hp), ac, by omega, hi, fun z H7 g7 e7 => ?_⟩
    have ne : ∀ (x : Addr) (j : Nat), H7 x = some (.lst ((path φ.ps j).map nV)) → x ≠ D6 := fun x j hx e => by
      subst e
      rw [g7 _ _ e6] at hx
      injection hx with hx
      injection hx with hx
      cases hq : path φ.ps j with
      | nil => exact path_ne _ _ hq
      | cons y ys =>
        rw [hq, List.map_cons] at hx
        obtain ⟨z', hz'⟩ := r6 (nV y) (by rw [hx]; exact List.mem_cons_self ..)
        cases hz'
    have kp : ∀ (x : Addr) (j : Nat) (o : HO), H7 x = some (.lst ((path φ.ps j).map nV)) → upd H7 D6 o x = some (.lst ((path φ.ps j).map nV)) := fun x j o hx => by rw [upd_ne (ne x j hx)]; exact hx
    refine ⟨us, g7 _ _ e6, smallLt (by omega), us ++ [.ref z], upd_same, by rw [List.length_append, l6]; rfl, fun v hv => ?_, ?_, (g6.trans g7).later n6⟩
    · rcases List.mem_append.mp hv with hv | hv
      · exact r6 v hv
      · exact ⟨z, List.mem_singleton.mp hv⟩
    · rw [List.range_succ]
      exact Paired.app (Paired.mapP pr fun v j ⟨x, ex, hx⟩ => ⟨x, ex, kp x j _ (g7 _ _ hx)⟩) (.cons ⟨z, rfl, kp z i _ e7⟩ .nil)
  rintro H6 ⟨us, e6, l6, r6, pr, g6⟩
  have pr : PathsAt φ.ps H6 us (List.range φ.ps.length) := pr
  have g16 := g15.trans g6
  refine ⟨_, rfl, _, rfl, by omega, by omega, ?_⟩
  refine for_range (lo := 0) (n := ((φ.ps.length : Nat) : Int).toNat) (fun i σ H' => (∃ s5 s8 s9, σ = [some (.ref a), some (.ref p), some (.ref q), some (.int (φ.ps.length : Int)), some (.ref D1), s5, some (.bl (isFair φ.ks)), some (.ref D6), s8, s9]) ∧ Same H6 H') ⟨⟨_, _, _, rfl⟩, Same.refl _⟩ ?_ ?_
  · rintro i σ H7 hi ⟨⟨s5, s8, s9, rfl⟩, g7⟩
    have hi : i < φ.ps.length := hi
    rw [Int.zero_add]
    have g17 := g16.trans g7
    have hA7 := hA.same g17
    have hat : us[i]? = some (us[i]'(by omega)) := List.getElem?_eq_getElem (by omega)
    obtain ⟨j, hj, z, ez, hz⟩ := Paired.at pr hat
    obtain rfl : j = i := by
      rw [List.getElem?_range hi] at hj
      exact (Option.some.inj hj).symm
    rw [ez] at hat
    have plen := path_len ac hi
    refine ⟨_, rfl, a, dx, _, rfl, g17 _ _ h1, rfl, _, rfl, a, φ, j, rfl, hA7, ac, by omega, hi, fun p8 H8 g8 e8 => ?_⟩
    refine ⟨_, rfl, _, rfl, D6, _, _, _, rfl, rfl, SqL.of (g8 _ _ (g7 _ _ e6)), atI_nat hat, p8, z, (path φ.ps j).map some, rfl, by rw [nats_pV]; exact e8, by rw [nats_pV]; exact g8 _ _ (g7 _ _ hz), by rw [List.length_map]; omega, ?_⟩
    refine ⟨_, rfl, ?_⟩
    refine iteF ?_
    have g18 := g17.trans g8
    refine ⟨_, rfl, a, dx, _, rfl, g18 _ _ h1, rfl, _, rfl, a, φ, j, rfl, hA.same g18, ac, by omega, lk, hi, fun p9 H9 u9 g9 e9 pr9 => ?_⟩
    have g19 := g18.trans g9
    refine ⟨_, rfl, _, rfl, _, rfl, p, q, φ.ps, φ.ks, j, rfl, g19 _ _ hp, g19 _ _ hq, ac, by omega, lk, hi, fun p10 H10 u10 g10 e10 pr10 => ?_⟩
    have g110 := g19.trans g10
    have wl : (wordOf φ.ps φ.ks j).length ≤ 1000 := by unfold wordOf; rw [List.length_map]; omega
    have ww : Words ((wordOf φ.ps φ.ks j).map Prod.snd) := by
      intro k hk
      obtain ⟨x, hx, rfl⟩ := List.mem_map.mp hk
      unfold wordOf at hx
      obtain ⟨y, hy, rfl⟩ := List.mem_map.mp hx
      have hy' : y < φ.ks.length := by rw [lk]; exact path_lt ac hi y hy
      refine four _ ?_
      show kindOf φ.ks y ∈ φ.ks
      unfold kindOf
      rw [List.getD_eq_getElem?_getD, List.getElem?_eq_getElem hy']
      exact List.getElem_mem hy'
    refine ⟨p9, p10, u9, u10, wordOf φ.ps φ.ks j, rfl, g10 _ _ e9, e10, pr9.keep fun p xs e => g10 _ _ e, pr10, wl, ww, ?_⟩
    refine ⟨_, rfl, ?_⟩
    refine iteF ?_
    refine ⟨_, rfl, a, dx, _, rfl, g110 _ _ h1, rfl, _, rfl, a, φ, some j, rfl, hA.same g110, ac, by omega, fun p11 H11 g11 e11 => ?_⟩
    have g111 := g110.trans g11
    dsimp only [tCons, tNil]
    refine lc_filter (n := φ.ps.length) (isChild (some j) φ) (by omega) (fun R h => ⟨_, rfl, _, rfl, by omega, by omega, h⟩) (by exact fun _ => rfl) (by exact fun _ => rfl) (fun k H' R hk g h => ?_) fun D12 H12 g12' e12 => ?_
    · refine ⟨_, rfl, _, rfl, p, _, _, _, rfl, rfl, SqL.of (g _ _ (g111 _ _ hp)), atI_nat (par_at hk), _, rfl, ?_, _, rfl, ?_⟩
      · cases par φ.ps k <;> rfl
      · rw [show decide (pV (par φ.ps k) = V.int (j : Int)) = decide (par φ.ps k = some j) from pV_eq _ (some j)]
        exact h H' (Same.refl _)
    refine ⟨p11, D12, ((List.range φ.ps.length).filter (isChild (some j) φ)).map some, rfl, by rw [nats_pV]; exact g12' _ _ e11, by rw [nats_pV]; exact e12, flen _, ?_⟩
    refine ⟨_, rfl, ?_⟩
    refine iteF ?_
    have g112 := g111.trans g12'
    have g712 := (((g8.trans g9).trans g10).trans g11).trans g12'
    dsimp only [tNext, gName]
    refine lc_filter_set (n := φ.ps.length) (isBeneath j φ) (by omega) (fun R h => ⟨_, rfl, _, rfl, by omega, by omega, h⟩) (by exact fun _ => rfl) (by exact fun _ => rfl) (fun k H' R hk g h => ?_) fun D13 H13 g13' e13 => ?_
    · have hb : isBeneath j φ k = (!decide (k = j) && decide (j ∈ path φ.ps k)) := rfl
      refine ⟨_, rfl, _, rfl, rfl, _, rfl, ?_⟩
      rw [show decide (nV k = V.int (j : Int)) = decide (k = j) from nV_eq k j]
      have := h H' (Same.refl _)
      by_cases c : k = j
      · rw [decide_eq_true c] at hb ⊢
        refine iteF ?_
        rw [hb] at this
        exact this
      · rw [decide_eq_false c] at hb ⊢
        refine iteT ?_
        have hatk : us[k]? = some (us[k]'(by omega)) := List.getElem?_eq_getElem (by omega)
        obtain ⟨k', hk', zk, ezk, hzk⟩ := Paired.at pr hatk
        obtain rfl : k' = k := by
          rw [List.getElem?_range hk] at hk'
          exact (Option.some.inj hk').symm
        rw [ezk] at hatk
        have gg := g712.trans g
        refine ⟨_, rfl, _, rfl, _, rfl, D6, _, _, _, rfl, rfl, SqL.of (gg _ _ (g7 _ _ e6)), atI_nat hatk, zk, _, rfl, .inl (SqL.of (gg _ _ (g7 _ _ hzk))), rfl, flat_nats _, _, rfl, ?_⟩
        show R (inV (.int (j : Int)) ((path φ.ps k').map nV)) H'
        rw [inV_nats]
        rw [hb] at this
        exact this
    have g113 := g112.trans g13'
    refine ⟨_, rfl, a, dx, _, rfl, g113 _ _ h1, rfl, _, rfl, a, φ, j, rfl, hA.same g113, ac, by omega, fun p14 H14 g14' e14 => ?_⟩
    refine ⟨_, rfl, p14, D13, ((List.range φ.ps.length).filter (isBeneath j φ)).map some, rfl, by rw [nats_pV]; exact e14, by rw [nats_pV]; exact g14' _ _ e13, flen _, ?_⟩
    refine ⟨_, rfl, ?_⟩
    refine iteF ?_
    exact ⟨⟨_, _, _, rfl⟩, g7.trans (g712.trans (g13'.trans g14'))⟩
  · rintro σ H7 ⟨_, g7⟩
    exact fin _ (g16.trans g7)

def spExch : Sp := fun vs H Q _ => ∃ (q : Addr) (ks : List Str) (x y : Str), vs = [.ref q, .str x, .str y] ∧ H q = some (.lst (ks.map V.str)) ∧ ks.length ≤ 1000 ∧ Words ks ∧ ((x = "up" ∧ y = "down") ∨ (x = "first" ∧ y = "last")) ∧
  ∀ (p : Addr) (H' : Hp), Same H H' → H' p = some (.lst ((ks.map (swap x y)).map V.str)) → Q (.ref p) H'
theorem dn_exch (B : Bts mg) (F : Df K mg "_law_exchanged" s__law_exchanged P__law_exchanged) : Dn P w K mg base 1 "_law_exchanged" spExch := by
  refine F.ok sc__law_exchanged (fun vs H Q E h => ?_) (fun fa cdv A outer s H vs Q E hr h => ?_)
  · obtain ⟨q, ks, x, y, rfl, _⟩ := h; rfl
  obtain ⟨q, ks, x, y, rfl, hq, hl, hw, hxy, fin⟩ := h
  refine ⟨_, (pss_one
        (ps_ret (pe_lc (own := [("_law_kind", 3)]) (g := gName 3) (tt := tYes) rfl sc__law_exchanged.nd (pi_list (pv 0)) (blkOk_by (own := [("_law_kind", 3)]) (N := N__law_exchanged) (sc := defScope s__law_exchanged) (by decide +kernel)) (fun _ _ _ _ _ => pg_name (i := 3) sc__law_exchanged.nd rfl (.inl rfl)) (fun _ _ _ _ _ => pts_nil) (fun _ _ _ _ _ => (pe_dget2 (hu_of hr) (pe_disp (pps_cons (pv 1) (pv 2) (pps_cons (pv 2) (pv 1) pps_nil)) rfl rfl (fun z => by cases z) (by decide)) (pv 3) (pv 3) ⟨rfl, rfl, rfl, rfl⟩))))), ?_⟩
  refine ⟨_, rfl, q, rfl, ⟨_, SqL.of hq⟩, fun D nD => ?_⟩
  refine lc_list (a := q) (xs := ks.map V.str) (fun k H' => Same H H' ∧ H' D = some (.lst (((ks.take k).map (swap x y)).map V.str))) ⟨same_new nD _, upd_same⟩ (fun k H' _ ⟨g, _⟩ => SqL.of (g _ _ hq)) ?_ ?_
  · rintro k v H2 hx ⟨g2, e2⟩
    rw [List.getElem?_map] at hx
    obtain ⟨j, hj, rfl⟩ := Option.map_eq_some_iff.mp hx
    have kl : k < ks.length := (List.getElem?_eq_some_iff.mp hj).1
    refine ⟨rfl, ?_⟩
    refine fun d nd => ⟨_, rfl, _, rfl, _, rfl, _, rfl, upd_same, [(.inr x, .str y), (.inr y, .str x)], rfl, (by show 2 ≤ 15; decide), ?_⟩
    rw [upd_upd]
    have gd := same_new nd (.dK (mergeK [] [(.inr x, .str y), (.inr y, .str x)]))
    refine ⟨d, rfl, .inl ⟨_, .inl upd_same⟩, _, rfl, _, rfl, _, DGet.k (k := .inr j) upd_same, ?_⟩
    have hv : (valV (mergeK [] [(.inr x, V.str y), (.inr y, .str x)]) (.inr j)).getD (.str j) = .str (swap x y j) := by
      rcases hxy with ⟨rfl, rfl⟩ | ⟨rfl, rfl⟩ <;> rcases hw j (List.mem_of_getElem? hj) with rfl | rfl | rfl | rfl <;> rfl
    rw [hv]
    refine ⟨_, gd _ _ e2, smallLt (by rw [List.length_map, List.length_map, List.length_take]; omega), (g2.trans gd).later nD, ?_⟩
    rw [upd_same, List.take_add_one, hj, List.map_append, List.map_append]
    rfl
  · rintro H2 ⟨g2, e2⟩
    rw [show (ks.map V.str).length = ks.length from List.length_map .., List.take_length] at e2
    exact fin D H2 g2 e2

/-- all but two lists stand still -/
def Two2 (S L : Addr) (H H' : Hp) : Prop := ∀ b o, b ≠ S → b ≠ L → H b = some o → H' b = some o
/-- a drawn shape: the list of its parents and of its kinds -/
def ShAt (S L : Addr) (H : Hp) (v : V) (φ : Fo) : Prop := ∃ s p q, v = .ref s ∧ s ≠ S ∧ s ≠ L ∧ p ≠ S ∧ p ≠ L ∧ q ≠ S ∧ q ≠ L ∧ H s = some (.lst [.ref p, .ref q]) ∧ H p = some (.lst (φ.ps.map pV)) ∧ H q = some (.lst (φ.ks.map V.str))
theorem ShAt.keep {S L : Addr} {H H' : Hp} {v : V} {φ : Fo} (g : Two2 S L H H') (h : ShAt S L H v φ) : ShAt S L H' v φ := by
  obtain ⟨s, p, q, rfl, h1, h2, h3, h4, h5, h6, h7, h8, h9⟩ := h
  exact ⟨s, p, q, rfl, h1, h2, h3, h4, h5, h6, g _ _ h1 h2 h7, g _ _ h3 h4 h8, g _ _ h5 h6 h9⟩
def FrAt (C : Addr) (H : Hp) (v : V) (φ : Fo) : Prop := ∃ a, v = .ref a ∧ FoAt C H a φ
theorem FrAt.keep {C S L : Addr} {H H' : Hp} {v : V} {φ : Fo} {x y : List V} (g : Two2 S L H H') (hS : H S = some (.lst x)) (hL : H L = some (.lst y)) (h : FrAt C H v φ) : FrAt C H' v φ := by
  obtain ⟨a, rfl, dx, pt, kt, h1, h2, h3⟩ := h
  exact ⟨a, rfl, dx, pt, kt, g _ _ (ne_of h1 hS (by intro z; cases z)) (ne_of h1 hL (by intro z; cases z)) h1, g _ _ (ne_of h2 hS (by intro z; cases z)) (ne_of h2 hL (by intro z; cases z)) h2, g _ _ (ne_of h3 hS (by intro z; cases z)) (ne_of h3 hL (by intro z; cases z)) h3⟩
/-- parents as data -/
def pyO : Option Nat → PyData
  | none => .none
  | some p => .int (p : Int)
theorem dpO {H : Hp} : ∀ os : List (Option Nat), DpAll K H (os.map pV) (os.map pyO)
  | [] => .nil
  | none :: os => .cons .non (dpO os)
  | some p :: os => .cons (.int _) (dpO os)
theorem dpS {H : Hp} : ∀ ks : List Str, DpAll K H (ks.map V.str) (ks.map PyData.str)
  | [] => .nil
  | k :: ks => .cons (.str k) (dpS ks)
def pyF (φ : Fo) : PyData := .list [.list (φ.ps.map pyO), .list (φ.ks.map PyData.str)]
theorem pyF_can {φ : Fo} (h : Words φ.ks) : (pyF φ).canLay0 = true := by
  have h1 : ∀ os : List (Option Nat), PyData.canLayAll0 (os.map pyO) = true := fun os => by
    induction os with
    | nil => rfl
    | cons o os ih => cases o <;> simp only [List.map_cons, pyO, PyData.canLayAll0, PyData.canLay0, Bool.true_and, ih]
  have h2 : ∀ ks : List Str, Words ks → PyData.canLayAll0 (ks.map PyData.str) = true := fun ks => by
    induction ks with
    | nil => intro _; rfl
    | cons k ks ih =>
      intro hw
      have c : (PyData.str k).canLay0 = true := by
        rcases hw k (List.mem_cons_self ..) with z | z | z | z <;> rw [z] <;> decide +kernel
      simp only [List.map_cons, PyData.canLayAll0, c, ih fun x hx => hw x (List.mem_cons_of_mem _ hx), Bool.and_self]
  simp only [pyF, PyData.canLay0, PyData.canLayAll0, h1, h2 _ h, Bool.and_self]
theorem pyF_shaped {φ : Fo} (h : Words φ.ks) : SeqAt.shaped (pyF φ) = true := by
  have h1 : ∀ os : List (Option Nat), PyData.depthAll (os.map pyO) ≤ 1 := fun os => by
    induction os with
    | nil => simp [PyData.depthAll]
    | cons o os ih => cases o <;> simp only [List.map_cons, pyO, PyData.depthAll, PyData.depth] <;> omega
  have h2 : ∀ ks : List Str, PyData.depthAll (ks.map PyData.str) ≤ 1 := fun ks => by
    induction ks with
    | nil => simp [PyData.depthAll]
    | cons k ks ih => simp only [List.map_cons, PyData.depthAll, PyData.depth]; omega
  unfold SeqAt.shaped
  rw [pyF_can h]
  have a := h1 φ.ps
  have b := h2 φ.ks
  rw [decide_eq_true (show (pyF φ).depth ≤ 64 by simp only [pyF, PyData.depth, PyData.depthAll]; omega)]
  rfl
theorem pyF_dp {H : Hp} {s p q : Addr} {φ : Fo} (h1 : H s = some (.lst [.ref p, .ref q])) (h2 : H p = some (.lst (φ.ps.map pV))) (h3 : H q = some (.lst (φ.ks.map V.str))) : Dp K H (.ref s) (pyF φ) :=
  .lst (SqL.of h1) (.cons (.lst (SqL.of h2) (dpO _)) (.cons (.lst (SqL.of h3) (dpS _)) .nil))
def sp_law (K : PySem.W.Frag) : Sp := fun vs H Q _ => ∃ (a : Addr) (ns : List Int), vs = [.ref a] ∧ SqL K H a (ns.map V.int) ∧ ns.length ≤ 63 ∧ ∀ H', Q (.bl true) H'
theorem ok_law {f : Addr} {fd : FuncData} (B : Bts mg) (F : Fun K "law" "law" s_law f fd) (D__law_tape : Dn P w K mg base 1 "_law_tape" (spTape K)) (D__law_take : Dn P w K mg base 1 "_law_take" spTake)
    (D__law_parents : Dn P w K mg base 3 "_law_parents" spParents) (D__law_kinds : Dn P w K mg base 2 "_law_kinds" spKinds) (D_Forest____init__ : DnI P w K mg base 3 "Forest" C_Forest (spInit C_Forest)) (D__law_fits : Dn P w K mg base 4 "_law_fits" (spFits C_Forest))
    (D_turned_forest : Dn P w K mg base 5 "turned_forest" (spSwap C_Forest "up" "down")) (D_mirror_forest : Dn P w K mg base 5 "mirror_forest" (spSwap C_Forest "first" "last")) (D__law_exchanged : Dn P w K mg base 1 "_law_exchanged" spExch) : FnOk P w K mg base CX0 7 f fd P_law (sp_law K) := by
  refine F.ok sc_law (fun vs H Q E h => ?_) (fun cdv A outer s H vs Q E hr h => ?_)
  · obtain ⟨a, ns, rfl, _⟩ := h; rfl
  obtain ⟨a, ns, rfl, hS, h63, fin⟩ := h
  refine ⟨_, (pss_cons
        (ps_set (i := 1) sc_law.nd rfl (.inl rfl) (pe_lst pa_nil))
        (pss_cons
        (ps_set (i := 2) sc_law.nd rfl (.inl rfl) (pe_lst pa_nil))
        (pss_cons
        (ps_for PassesOwn.never rfl (pi_range1 rfl B.range_ (pa_cons pe_int pa_nil)) (pg_name (i := 3) sc_law.nd rfl (.inl rfl)) (pss_cons
          (ps_set (i := 4) sc_law.nd rfl (.inl rfl) (My.pe_callD D__law_tape (hr.mono (by omega)) rfl (pa_cons (pv 0) (pa_cons (pe_op op_mul pe_int (pv 3)) pa_nil))))
          (pss_cons
          (ps_set (i := 5) sc_law.nd rfl (.inl rfl) (pe_ix ix_list (pe_lst (pa_cons pe_int (pa_cons pe_int pa_nil))) (pv 3) (fun _ _ => rfl)))
          (pss_cons
          (ps_set (i := 6) sc_law.nd rfl (.inl rfl) (pe_op op_sub (pv 5) (My.pe_callD D__law_take (hr.mono (by omega)) rfl (pa_cons (pv 4) (pa_cons (pv 5) pa_nil)))))
          (pss_cons
          (ps_set (i := 7) sc_law.nd rfl (.inl rfl) (My.pe_callD D__law_parents (hr.mono (by omega)) rfl (pa_cons (pv 4) (pa_cons (pv 6) pa_nil))))
          (pss_cons
          (ps_set (i := 8) sc_law.nd rfl (.inl rfl) (My.pe_callD D__law_kinds (hr.mono (by omega)) rfl (pa_cons (My.pe_callD D__law_tape (hr.mono (by omega)) rfl (pa_cons (pv 0) (pa_cons (pe_op op_add (pe_op op_mul pe_int (pv 3)) pe_int) pa_nil))) (pa_cons (pv 7) (pa_cons (pe_cmpR op_eq (My.pe_callD D__law_take (hr.mono (by omega)) rfl (pa_cons (pv 4) (pa_cons pe_int pa_nil))) pe_int (nomark _)) pa_nil)))))
          (pss_cons
          (ps_set (i := 9) sc_law.nd rfl (.inl rfl) (pe_lst (pa_cons (pe_callTy call_list_of rfl B.list_ boot_list (pa_cons (pv 7) pa_nil)) (pa_cons (pe_callTy call_list_of rfl B.list_ boot_list (pa_cons (pv 8) pa_nil)) pa_nil))))
          (pss_cons
          (ps_expr (pe_bm PySem.F.plainAttrs_list PySem.F.slot_list_append PySem.F.type_list_append mt_append (pv 2) (pa_cons (pe_makeD D_Forest____init__ (hr.mono (by omega)) rfl (pa_cons (pe_ix ix_list (pv 9) pe_int (fun _ _ => rfl)) (pa_cons (pe_ix ix_list (pv 9) pe_int (fun _ _ => rfl)) pa_nil))) pa_nil)))
          (pss_cons
          (ps_if (pt_cmpR (op_neD hr.units) (pv 9) (pe_lst (pa_cons (pv 7) (pa_cons (pv 8) pa_nil))) (nomark _)) (pss_one
            (ps_ret pe_bl)) pss_nil)
          (pss_cons
          (ps_for PassesOwn.never rfl (pi_list (pv 9)) (pg_name (i := 10) sc_law.nd rfl (.inl rfl)) (pss_cons
            (ps_expr (pe_bm PySem.F.plainAttrs_list PySem.F.slot_list_append PySem.F.type_list_append mt_append (pv 10) (pa_cons (pe_ix ix_seq (pv 10) pe_int (fun _ _ => rfl)) pa_nil)))
            (pss_one
            (ps_asg pe_str (pg_sub (pv 10) pe_int set_list)))))
          (pss_one
          (ps_expr (pe_bm PySem.F.plainAttrs_list PySem.F.slot_list_append PySem.F.type_list_append mt_append (pv 1) (pa_cons (pe_lst (pa_cons (pv 7) (pa_cons (pv 8) pa_nil))) pa_nil))))))))))))))
        (pss_cons
        (ps_for PassesOwn.never rfl (pi_range1 rfl B.range_ (pa_cons pe_int pa_nil)) (pg_name (i := 3) sc_law.nd rfl (.inl rfl)) (pss_cons
          (ps_set (i := 7) sc_law.nd rfl (.inl rfl) (pe_ix ix_seq (pe_ix ix_list (pv 1) (pv 3) (fun _ _ => rfl)) pe_int (fun _ _ => rfl)))
          (pss_cons
          (ps_set (i := 8) sc_law.nd rfl (.inl rfl) (pe_ix ix_seq (pe_ix ix_list (pv 1) (pv 3) (fun _ _ => rfl)) pe_int (fun _ _ => rfl)))
          (pss_cons
          (ps_if (pt_not (pt_val (My.pe_callD D__law_fits (hr.mono (by omega)) rfl (pa_cons (pe_ix ix_list (pv 2) (pv 3) (fun _ _ => rfl)) (pa_cons (pv 7) (pa_cons (pv 8) pa_nil)))))) (pss_one
            (ps_ret pe_bl)) pss_nil)
          (pss_cons
          (ps_if (pt_not (pt_val (My.pe_callD D__law_fits (hr.mono (by omega)) rfl (pa_cons (My.pe_callD D_turned_forest (hr.mono (by omega)) rfl (pa_cons (pe_ix ix_list (pv 2) (pv 3) (fun _ _ => rfl)) pa_nil)) (pa_cons (pv 7) (pa_cons (My.pe_callD D__law_exchanged (hr.mono (by omega)) rfl (pa_cons (pv 8) (pa_cons pe_str (pa_cons pe_str pa_nil)))) pa_nil)))))) (pss_one
            (ps_ret pe_bl)) pss_nil)
          (pss_one
          (ps_if (pt_not (pt_val (My.pe_callD D__law_fits (hr.mono (by omega)) rfl (pa_cons (My.pe_callD D_mirror_forest (hr.mono (by omega)) rfl (pa_cons (pe_ix ix_list (pv 2) (pv 3) (fun _ _ => rfl)) pa_nil)) (pa_cons (pv 7) (pa_cons (My.pe_callD D__law_exchanged (hr.mono (by omega)) rfl (pa_cons (pv 8) (pa_cons pe_str (pa_cons pe_str pa_nil)))) pa_nil)))))) (pss_one
            (ps_ret pe_bl)) pss_nil)))))))
        (pss_cons
        (ps_for PassesOwn.never rfl (pi_range1 rfl B.range_ (pa_cons pe_int pa_nil)) (pg_name (i := 3) sc_law.nd rfl (.inl rfl)) (pss_one
          (ps_if (pt_not (pt_val (My.pe_callD D__law_fits (hr.mono (by omega)) rfl (pa_cons (pe_ix ix_list (pv 2) (pv 3) (fun _ _ => rfl)) (pa_cons (pe_ix ix_seq (pe_ix ix_list (pv 1) (pv 3) (fun _ _ => rfl)) pe_int (fun _ _ => rfl)) (pa_cons (pe_ix ix_seq (pe_ix ix_list (pv 1) (pv 3) (fun _ _ => rfl)) pe_int (fun _ _ => rfl)) pa_nil)))))) (pss_one
            (ps_ret pe_bl)) pss_nil)))
        (pss_one
        (ps_ret pe_bl))))))), ?_⟩
  refine ⟨small (by decide), fun S nS => ?_⟩
  refine ⟨small (by decide), fun L nL => ?_⟩
  have hSL : S ≠ L := ne_of_none (o := .lst []) upd_same nL
  have gL := (same_new nS (.lst [])).trans (same_new nL (.lst []))
  have nS0 : H S = none := nS
  have nL0 : H L = none := (same_new nS (.lst [])).free nL
  refine ⟨2, rfl, by decide, by decide, ?_⟩
  refine for_range (lo := 0) (n := 2) (fun k σ H' => (∃ s3 s4 s5 s6 s7 s8 s9 s10, σ = [some (.ref a), some (.ref S), some (.ref L), s3, s4, s5, s6, s7, s8, s9, s10]) ∧ Same H H' ∧ ∃ (us ws : List V) (φs : List Fo), H' S = some (.lst us) ∧ H' L = some (.lst ws) ∧ Paired (ShAt S L H') us φs ∧ Paired (FrAt C_Forest H') ws φs ∧ φs.length = k ∧ ∀ φ ∈ φs, φ.Ok)
    ⟨⟨_, _, _, _, _, _, _, _, rfl⟩, gL, [], [], [], by rw [upd_ne hSL]; exact upd_same, upd_same, .nil, .nil, rfl, (fun _ h => nomatch h)⟩ ?_ ?_
  · rintro k σ H1 hk ⟨⟨s3, s4, s5, s6, s7, s8, s9, s10, rfl⟩, g1, us, ws, φs, eS, eL, pS, pL, lk, oks⟩
    rw [Int.zero_add]
    have hk : k < 2 := hk
    have S1 := g1.seq hS
    refine ⟨_, rfl, _, rfl, _, _, rfl, rfl, .inl ⟨by decide, by decide⟩, a, ns, _, rfl, S1, by omega, fun t ct nt ct0 => ?_⟩
    have T2 : Tape (upd H1 t (.lst [.int ct, .int 0])) t := tape_new ct0
    obtain ⟨m, hm, m8, m16⟩ : ∃ m : Int, atI [V.int 16, V.int 8] (k : Int) = some (.int m) ∧ 8 ≤ m ∧ m ≤ 16 := by
      have : k = 0 ∨ k = 1 := by omega
      rcases this with z | z
      · subst z; exact ⟨16, rfl, by decide, by decide⟩
      · subst z; exact ⟨8, rfl, by decide, by decide⟩
    refine ⟨small (by show 2 ≤ 100000; decide), fun pm nm => ?_⟩
    have gm := same_new nm (.lst [.int 16, .int 8])
    refine ⟨_, rfl, pm, _, _, _, rfl, rfl, SqL.of upd_same, hm, ?_⟩
    refine ⟨_, rfl, _, rfl, _, rfl, t, m, rfl, T2.same gm, by omega, by omega, fun H3 r b3 T3 r0 r1 => ⟨_, _, rfl, rfl, ?_⟩⟩
    dsimp only [gName]
    obtain ⟨n, hn⟩ : ∃ n : Nat, m - r = (n : Int) := ⟨(m - r).toNat, by omega⟩
    rw [hn]
    refine ⟨_, rfl, _, rfl, t, n, rfl, T3, by omega, fun H4 p ps b4 T4 pt np3 ep lp ac => ?_⟩
    have S14 : Same H1 H4 := But.same nt ((But.of gm).trans (b3.trans b4))
    refine ⟨_, rfl, _, rfl, _, _, rfl, rfl, .inl ⟨by decide, by decide⟩, _, _, rfl, rfl, a, ns, _, rfl, S14.seq S1, by omega, fun t2 ct2 nt2 ct20 => ?_⟩
    have g5 := same_new nt2 (.lst [.int ct2, .int 0])
    have t2t : t2 ≠ t := T4.ne nt2
    have Tk : Tape (upd H4 t2 (.lst [.int ct2, .int 0])) t2 := tape_new ct20
    refine ⟨_, rfl, _, rfl, t, 3, rfl, T4.same g5, by decide, by decide, fun H6 r6 b6 T6 r60 r61 => ⟨rfl, ?_⟩⟩
    have pt2 : p ≠ t2 := ne_of_none ep nt2
    refine ⟨t2, p, ps, _, rfl, Tk.but b6 t2t, b6 _ _ pt (g5 _ _ ep), pt2, by omega, fun H7 q ks b7 T7 qt2 nq eq lkk kok _ => ?_⟩
    have K47 : ∀ b o, b ≠ t → H4 b = some o → H7 b = some o := fun b o nb h => b7 _ _ (ne_of_none h nt2) (b6 _ _ nb (g5 _ _ h))
    have S17 : Same H1 H7 := fun b o h => K47 b o (ne_of_none h nt) (S14 b o h)
    have ep7 := K47 _ _ pt ep
    have np1 : H1 p = none := by
      have : Same H1 H3 := But.same nt ((But.of gm).trans b3)
      exact this.free np3
    have nq1 : H1 q = none := by
      have : ∀ b o, b ≠ t → H4 b = some o → H6 b = some o := fun b o nb h => b6 _ _ nb (g5 _ _ h)
      cases e : H1 q with
      | none => rfl
      | some o => rw [this q o (ne_of_none e nt) (S14 q o e)] at nq; cases nq
    have pS' : p ≠ S := fun e => by rw [e, eS] at np1; cases np1
    have pL' : p ≠ L := fun e => by rw [e, eL] at np1; cases np1
    have qS' : q ≠ S := fun e => by rw [e, eS] at nq1; cases nq1
    have qL' : q ≠ L := fun e => by rw [e, eL] at nq1; cases nq1
    have ok : Fo.Ok ⟨ps, ks⟩ := ⟨lkk, by show 1 ≤ ps.length; omega, by show ps.length ≤ 16; omega, ac, kok.1, kok.2⟩
    refine ⟨_, rfl, p, _, rfl, .inl (SqL.of ep7), fun l1 nl1 => ?_⟩
    have h1 := same_new nl1 (.lst (ps.map pV))
    refine ⟨_, rfl, q, _, rfl, .inl (SqL.of (h1 _ _ eq)), fun l2 nl2 => ?_⟩
    have h2 := same_new nl2 (.lst (ks.map V.str))
    refine ⟨small (by show 2 ≤ 100000; decide), fun gv ngv => ?_⟩
    have h3 := same_new ngv (.lst [.ref l1, .ref l2])
    have el1 := h3 _ _ (h2 _ _ (upd_same (H := H7) (a := l1) (o := .lst (ps.map pV))))
    have el2 := h3 _ _ (upd_same (H := upd H7 l1 (.lst (ps.map pV))) (a := l2) (o := .lst (ks.map V.str)))
    have egv := upd_same (H := upd (upd H7 l1 (.lst (ps.map pV))) l2 (.lst (ks.map V.str))) (a := gv) (o := .lst [.ref l1, .ref l2])
    have S78 := h1.trans (h2.trans h3)
    have n71 : H7 l1 = none := nl1
    have n72 : H7 l2 = none := h1.free nl2
    have n7g : H7 gv = none := h1.free (h2.free ngv)
    have l12 : l1 ≠ l2 := ne_of_none (upd_same (H := H7) (a := l1) (o := .lst (ps.map pV))) nl2
    have l1g : l1 ≠ gv := ne_of_none (h2 _ _ (upd_same (H := H7) (a := l1) (o := .lst (ps.map pV)))) ngv
    have l2g : l2 ≠ gv := ne_of_none (upd_same (H := upd H7 l1 (.lst (ps.map pV))) (a := l2) (o := .lst (ks.map V.str))) ngv
    generalize upd (upd (upd H7 l1 (.lst (ps.map pV))) l2 (.lst (ks.map V.str))) gv (.lst [.ref l1, .ref l2]) = H8 at el1 el2 egv S78 h3
    have eS7 := S17 _ _ eS
    have eL7 := S17 _ _ eL
    have nn : ∀ {x : Addr}, H7 x = none → x ≠ S ∧ x ≠ L := fun {x} h => ⟨fun e => (by rw [e, eS7] at h; cases h), fun e => (by rw [e, eL7] at h; cases h)⟩
    obtain ⟨l1S, l1L⟩ := nn n71
    obtain ⟨l2S, l2L⟩ := nn n72
    obtain ⟨gS, gL'⟩ := nn n7g
    have eL8 := S78 _ _ eL7
    refine ⟨_, rfl, .inl ⟨rfl, _, SqL.of eL8⟩, _, rfl, gv, _, _, _, rfl, rfl, SqL.of egv, (show atI [V.ref l1, V.ref l2] 0 = some (.ref l1) from rfl), _, rfl, gv, _, _, _, rfl, rfl, SqL.of egv, (show atI [V.ref l1, V.ref l2] 1 = some (.ref l2) from rfl), fun x dx nx ndx ne => ?_⟩
    have hx0 : Same H8 (upd (upd H8 dx (.own x)) x (.ins C_Forest dx [])) := (same_new ndx _).trans (same_new (by rw [upd_ne ne.symm]; exact nx) _)
    refine ⟨x, l1, l2, ⟨ps, ks⟩, dx, rfl, upd_same, .inl (hx0 _ _ el1), .inl (hx0 _ _ el2), ok, fun H9 b9 fo => ⟨rfl, ?_⟩⟩
    have S89 : Same H8 H9 := fun b o h => b9 b o (ne_of_none h nx) (hx0 b o h)
    have eL9 := S89 _ _ eL8
    have lw : ws.length = φs.length := Paired.length pL
    have lu : us.length = φs.length := Paired.length pS
    refine ⟨L, _, _, rfl, rfl, eL9, smallLt (by omega), ?_⟩
    have eS9 := S89 _ _ (S78 _ _ eS7)
    have el19 := S89 _ _ el1
    have el29 := S89 _ _ el2
    have egv9 := S89 _ _ egv
    have K910 : ∀ b o, b ≠ L → H9 b = some o → upd H9 L (.lst (ws ++ [.ref x])) b = some o := fun b o n h => by rw [upd_ne n]; exact h
    have ep9 := S89 _ _ (S78 _ _ ep7)
    have eq9 := S89 _ _ (S78 _ _ eq)
    have eL10 : upd H9 L (.lst (ws ++ [.ref x])) L = some (.lst (ws ++ [.ref x])) := upd_same
    generalize upd H9 L (.lst (ws ++ [.ref x])) = H10 at K910 eL10
    refine ⟨_, rfl, _, rfl, _, rfl, small (by show 2 ≤ 100000; decide), fun cl ncl => ?_⟩
    have S11 := same_new ncl (.lst [.ref p, .ref q])
    refine ⟨pyF ⟨ps, ks⟩, pyF ⟨ps, ks⟩, pyF_dp (S11 _ _ (K910 _ _ gL' egv9)) (S11 _ _ (K910 _ _ l1L el19)) (S11 _ _ (K910 _ _ l2L el29)), pyF_dp upd_same (S11 _ _ (K910 _ _ pL' ep9)) (S11 _ _ (K910 _ _ qL' eq9)), pyF_shaped (φ := ⟨ps, ks⟩) kok.1, pyF_shaped (φ := ⟨ps, ks⟩) kok.1, _, rfl, ?_⟩
    rw [SeqAt.eqv_refl _ (pyF_can (φ := ⟨ps, ks⟩) kok.1)]
    refine iteF ?_
    have K911 : ∀ b o, b ≠ L → H9 b = some o → upd H10 cl (.lst [.ref p, .ref q]) b = some o := fun b o n h => S11 _ _ (K910 b o n h)
    have eL11 := S11 _ _ eL10
    generalize upd H10 cl (.lst [.ref p, .ref q]) = H11 at K911 eL11
    have psn : ps.map pV ≠ [] := map_ne (fun e => by rw [e] at lp; simp at lp; omega)
    have ksn : ks.map V.str ≠ [] := map_ne (fun e => by rw [e] at lkk; simp at lkk; omega)
    refine ⟨_, rfl, gv, rfl, ⟨_, SqL.of (K911 _ _ gL' egv9)⟩, ?_⟩
    refine for_list (a := gv) (xs := [.ref l1, .ref l2]) (fun i σ H' => (∃ s10, σ = [some (.ref a), some (.ref S), some (.ref L), some (.int (k : Int)), some (.ref t), some (.int m), some (.int (n : Int)), some (.ref p), some (.ref q), some (.ref gv), s10]) ∧ (∀ b o, b ≠ l1 → b ≠ l2 → H11 b = some o → H' b = some o) ∧
        (∃ y1, H' l1 = some (.lst y1) ∧ y1 ≠ [] ∧ y1.length ≤ 1000 + i) ∧ ∃ y2, H' l2 = some (.lst y2) ∧ y2 ≠ [] ∧ y2.length ≤ 1000 + i)
      ⟨⟨_, rfl⟩, fun _ _ _ _ h => h, ⟨_, K911 _ _ l1L el19, psn, by rw [List.length_map]; omega⟩, _, K911 _ _ l2L el29, ksn, by rw [List.length_map]; omega⟩
      (fun i σ H' _ ⟨_, kk, _⟩ => SqL.of (kk _ _ l1g.symm l2g.symm (K911 _ _ gL' egv9))) ?_ ?_
    · rintro i y σ H12 hy ⟨⟨s10, rfl⟩, kk, ⟨y1, e1, y1n, y1l⟩, y2, e2, y2n, y2l⟩
      have ilt : i < 2 := (List.getElem?_eq_some_iff.mp hy).1
      have step : ∀ (l : Addr) (ys : List V), H12 l = some (.lst ys) → ys ≠ [] → ys.length ≤ 1000 + i → ∃ z, atI ys 0 = some z ∧ (∃ zs, (ys ++ [z]).set 0 (.str "last") = zs ∧ zs ≠ [] ∧ zs.length ≤ 1000 + (i + 1)) := fun l ys e n ll => by
        cases ys with
        | nil => exact absurd rfl n
        | cons z zs =>
          refine ⟨z, atI_nat (j := 0) rfl, _, rfl, by simp, ?_⟩
          rw [List.length_set, List.length_append]
          show (z :: zs).length + 1 ≤ _
          omega
      have ii : i = 0 ∨ i = 1 := by omega
      rcases ii with hi | hi
      · subst hi
        obtain rfl : y = .ref l1 := (Option.some.inj hy).symm
        obtain ⟨z, hz, zs, ezs, zn, zl⟩ := step l1 y1 e1 y1n y1l
        refine ⟨_, rfl, .inl ⟨rfl, _, SqL.of e1⟩, _, rfl, .inl ⟨l1, y1, 0, z, rfl, rfl, SqL.of e1, hz, l1, y1, z, rfl, rfl, e1, smallLt (by omega), ?_⟩⟩
        refine ⟨_, rfl, l1, _, _, 0, rfl, rfl, upd_same, ?_, ?_⟩
        · show ixN _ 0 = _
          unfold ixN
          rw [if_pos (by decide), if_pos (by rw [List.length_append]; show (0 : Int) < ((y1.length + 1 : Nat) : Int); omega)]
          rfl
        refine ⟨⟨_, rfl⟩, fun b o n1 n2 h => by rw [upd_ne n1, upd_ne n1]; exact kk b o n1 n2 h, ⟨_, upd_same, by rw [ezs]; exact zn, by rw [ezs]; exact zl⟩, y2, by rw [upd_ne l12.symm, upd_ne l12.symm]; exact e2, y2n, by omega⟩
      · subst hi
        obtain rfl : y = .ref l2 := (Option.some.inj hy).symm
        obtain ⟨z, hz, zs, ezs, zn, zl⟩ := step l2 y2 e2 y2n y2l
        refine ⟨_, rfl, .inl ⟨rfl, _, SqL.of e2⟩, _, rfl, .inl ⟨l2, y2, 0, z, rfl, rfl, SqL.of e2, hz, l2, y2, z, rfl, rfl, e2, smallLt (by omega), ?_⟩⟩
        refine ⟨_, rfl, l2, _, _, 0, rfl, rfl, upd_same, ?_, ?_⟩
        · show ixN _ 0 = _
          unfold ixN
          rw [if_pos (by decide), if_pos (by rw [List.length_append]; show (0 : Int) < ((y2.length + 1 : Nat) : Int); omega)]
          rfl
        refine ⟨⟨_, rfl⟩, fun b o n1 n2 h => by rw [upd_ne n2, upd_ne n2]; exact kk b o n1 n2 h, ⟨y1, by rw [upd_ne l12, upd_ne l12]; exact e1, y1n, by omega⟩, _, upd_same, by rw [ezs]; exact zn, by rw [ezs]; exact zl⟩
    rintro σ H12 ⟨⟨s10, rfl⟩, kk, _, _⟩
    have K912 : ∀ b o, b ≠ L → b ≠ l1 → b ≠ l2 → H9 b = some o → H12 b = some o := fun b o n n1 n2 h => kk b o n1 n2 (K911 b o n h)
    have eS12 := K912 _ _ hSL (Ne.symm l1S) (Ne.symm l2S) eS9
    have eL12 := kk _ _ (Ne.symm l1L) (Ne.symm l2L) eL11
    refine ⟨_, rfl, .inl ⟨rfl, _, SqL.of eS12⟩, _, rfl, _, rfl, small (by show 2 ≤ 100000; decide), fun sh nsh => ?_⟩
    have S13 := same_new nsh (.lst [.ref p, .ref q])
    refine ⟨S, _, _, rfl, rfl, S13 _ _ eS12, smallLt (by omega), ?_⟩
    have K9e : ∀ b o, b ≠ S → b ≠ L → b ≠ l1 → b ≠ l2 → H9 b = some o → upd (upd H12 sh (.lst [.ref p, .ref q])) S (.lst (us ++ [.ref sh])) b = some o := fun b o nS' n n1 n2 h => by
      rw [upd_ne nS']; exact S13 _ _ (K912 b o n n1 n2 h)
    have K7e : ∀ b o, b ≠ S → b ≠ L → H7 b = some o → upd (upd H12 sh (.lst [.ref p, .ref q])) S (.lst (us ++ [.ref sh])) b = some o := fun b o nS' n h =>
      K9e b o nS' n (ne_of_none h n71) (ne_of_none h n72) (S89 _ _ (S78 _ _ h))
    have T1e : Two2 S L H1 (upd (upd H12 sh (.lst [.ref p, .ref q])) S (.lst (us ++ [.ref sh]))) := fun b o nS' n h => K7e b o nS' n (S17 _ _ h)
    have shS : sh ≠ S := fun e => by rw [e, eS12] at nsh; cases nsh
    have shL : sh ≠ L := fun e => by rw [e, eL12] at nsh; cases nsh
    refine ⟨⟨_, _, _, _, _, _, _, _, rfl⟩, fun b o h => K7e b o (ne_of_none h nS0) (ne_of_none h nL0) (S17 _ _ (g1 _ _ h)), us ++ [.ref sh], ws ++ [.ref x], φs ++ [⟨ps, ks⟩], upd_same, by rw [upd_ne hSL.symm]; exact S13 _ _ eL12, ?_, ?_, by rw [List.length_append, lk]; rfl, fun φ hφ => ?_⟩
    · refine Paired.app (Paired.mapP pS fun v φ h => h.keep T1e) (.cons ⟨sh, p, q, rfl, shS, shL, pS', pL', qS', qL', by rw [upd_ne shS]; exact upd_same, K7e _ _ pS' pL' ep7, K7e _ _ qS' qL' eq⟩ .nil)
    · refine Paired.app (Paired.mapP pL fun v φ h => h.keep T1e eS eL) (.cons ⟨x, rfl, ?_⟩ .nil)
      obtain ⟨dx', pt', kt', f1, f2, f3⟩ := fo
      have ne9 : ∀ {b : Addr} {o : HO}, H9 b = some o → (∀ l, o ≠ .lst l) → b ≠ S ∧ b ≠ L ∧ b ≠ l1 ∧ b ≠ l2 := fun {b o} h no => ⟨ne_of h eS9 (no _), ne_of h eL9 (no _), ne_of h el19 (no _), ne_of h el29 (no _)⟩
      obtain ⟨a1, a2, a3, a4⟩ := ne9 f1 (fun _ z => nomatch z)
      obtain ⟨b1, b2, b3, b4⟩ := ne9 f2 (fun _ z => nomatch z)
      obtain ⟨c1, c2, c3, c4⟩ := ne9 f3 (fun _ z => nomatch z)
      exact ⟨dx', pt', kt', K9e _ _ a1 a2 a3 a4 f1, K9e _ _ b1 b2 b3 b4 f2, K9e _ _ c1 c2 c3 c4 f3⟩
    · rcases List.mem_append.mp hφ with hφ | hφ
      · exact oks φ hφ
      · rw [List.mem_singleton.mp hφ]; exact ok
  · rintro σ H1 ⟨⟨s3, s4, s5, s6, s7, s8, s9, s10, rfl⟩, g1, us, ws, φs, eS, eL, pS, pL, lk, oks⟩
    have acc : ∀ k : Nat, k < 2 → ∃ s p q x φ, us[k]? = some (.ref s) ∧ ws[k]? = some (.ref x) ∧ H1 s = some (.lst [.ref p, .ref q]) ∧ H1 p = some (.lst (φ.ps.map pV)) ∧ H1 q = some (.lst (φ.ks.map V.str)) ∧ FoAt C_Forest H1 x φ ∧ φ.Ok := fun k hk => by
      have lw : ws.length = φs.length := Paired.length pL
      have lu : us.length = φs.length := Paired.length pS
      have h1 : us[k]? = some (us[k]'(by omega)) := List.getElem?_eq_getElem (by omega)
      have h2 : ws[k]? = some (ws[k]'(by omega)) := List.getElem?_eq_getElem (by omega)
      obtain ⟨φ, hφ, s, p, q, e1, _, _, _, _, _, _, f1, f2, f3⟩ := Paired.at pS h1
      obtain ⟨φ', hφ', x, e2, fo⟩ := Paired.at pL h2
      obtain rfl : φ' = φ := by rw [hφ] at hφ'; exact (Option.some.inj hφ').symm
      rw [e1] at h1
      rw [e2] at h2
      exact ⟨s, p, q, x, φ', h1, h2, f1, f2, f3, fo, oks _ (List.mem_of_getElem? hφ)⟩
    refine ⟨2, rfl, by decide, by decide, ?_⟩
    refine for_range (lo := 0) (n := 2) (fun k σ H' => (∃ s3 s4 s5 s6 s7 s8 s9 s10, σ = [some (.ref a), some (.ref S), some (.ref L), s3, s4, s5, s6, s7, s8, s9, s10]) ∧ Same H1 H') ⟨⟨_, _, _, _, _, _, _, _, rfl⟩, Same.refl _⟩ ?_ ?_
    · rintro k σ H2 hk ⟨⟨s3, s4, s5, s6, s7, s8, s9, s10, rfl⟩, g2⟩
      rw [Int.zero_add]
      obtain ⟨s, p, q, x, φ, hu, hw, es, ep, eq, fo, ok⟩ := acc k hk
      refine ⟨_, rfl, _, rfl, S, _, _, _, rfl, rfl, SqL.of (g2 _ _ eS), atI_nat hu, .inl ⟨s, _, 0, _, rfl, rfl, SqL.of (g2 _ _ es), rfl, ?_⟩⟩
      refine ⟨_, rfl, _, rfl, S, _, _, _, rfl, rfl, SqL.of (g2 _ _ eS), atI_nat hu, .inl ⟨s, _, 1, _, rfl, rfl, SqL.of (g2 _ _ es), rfl, ?_⟩⟩
      refine ⟨_, rfl, _, rfl, L, _, _, _, rfl, rfl, SqL.of (g2 _ _ eL), atI_nat hw, _, rfl, _, rfl, x, p, q, φ, rfl, fo.same g2, g2 _ _ ep, g2 _ _ eq, ok, fun H3 g3 => ?_⟩
      refine ⟨_, rfl, ?_⟩
      refine iteF ?_
      have g23 := g2.trans g3
      refine ⟨_, rfl, _, rfl, L, _, _, _, rfl, rfl, SqL.of (g23 _ _ eL), atI_nat hw, x, φ, rfl, fo.same g23, ok, fun b H4 g4 fo4 => ?_⟩
      have g24 := g23.trans g4
      refine ⟨_, rfl, _, rfl, q, φ.ks, "up", "down", rfl, g24 _ _ eq, by have := ok.len; have := ok.most; omega, ok.four, .inl ⟨rfl, rfl⟩, fun q2 H5 g5 eq2 => ?_⟩
      have g25 := g24.trans g5
      refine ⟨b, p, q2, ⟨φ.ps, φ.ks.map (swap "up" "down")⟩, rfl, fo4.same g5, g25 _ _ ep, eq2, swap_ok ok (.inl ⟨rfl, rfl⟩), fun H6 g6 => ?_⟩
      refine ⟨_, rfl, ?_⟩
      refine iteF ?_
      have g26 := g25.trans g6
      refine ⟨_, rfl, _, rfl, L, _, _, _, rfl, rfl, SqL.of (g26 _ _ eL), atI_nat hw, x, φ, rfl, fo.same g26, ok, fun b2 H7 g7 fo7 => ?_⟩
      have g27 := g26.trans g7
      refine ⟨_, rfl, _, rfl, q, φ.ks, "first", "last", rfl, g27 _ _ eq, by have := ok.len; have := ok.most; omega, ok.four, .inr ⟨rfl, rfl⟩, fun q3 H8 g8 eq3 => ?_⟩
      have g28 := g27.trans g8
      refine ⟨b2, p, q3, ⟨φ.ps, φ.ks.map (swap "first" "last")⟩, rfl, fo7.same g8, g28 _ _ ep, eq3, swap_ok ok (.inr ⟨rfl, rfl⟩), fun H9 g9 => ?_⟩
      refine ⟨_, rfl, ?_⟩
      refine iteF ?_
      exact ⟨⟨_, _, _, _, _, _, _, _, rfl⟩, g28.trans g9⟩
    rintro σ H2 ⟨⟨s3, s4, s5, s6, s7, s8, s9, s10, rfl⟩, g2⟩
    refine ⟨2, rfl, by decide, by decide, ?_⟩
    refine for_range (lo := 0) (n := 2) (fun k σ H' => (∃ s3 s4 s5 s6 s7 s8 s9 s10, σ = [some (.ref a), some (.ref S), some (.ref L), s3, s4, s5, s6, s7, s8, s9, s10]) ∧ Same H1 H') ⟨⟨_, _, _, _, _, _, _, _, rfl⟩, g2⟩ ?_ ?_
    · rintro k σ H3 hk ⟨⟨s3, s4, s5, s6, s7, s8, s9, s10, rfl⟩, g3⟩
      rw [Int.zero_add]
      obtain ⟨s, p, q, x, φ, hu, hw, es, ep, eq, fo, ok⟩ := acc k hk
      refine ⟨_, rfl, _, rfl, L, _, _, _, rfl, rfl, SqL.of (g3 _ _ eL), atI_nat hw, _, rfl, _, rfl, S, _, _, _, rfl, rfl, SqL.of (g3 _ _ eS), atI_nat hu, .inl ⟨s, _, 0, _, rfl, rfl, SqL.of (g3 _ _ es), rfl,
        _, rfl, _, rfl, S, _, _, _, rfl, rfl, SqL.of (g3 _ _ eS), atI_nat hu, .inl ⟨s, _, 1, _, rfl, rfl, SqL.of (g3 _ _ es), rfl, x, p, q, φ, rfl, fo.same g3, g3 _ _ ep, g3 _ _ eq, ok, fun H4 g4 => ?_⟩⟩⟩
      refine ⟨_, rfl, ?_⟩
      refine iteF ?_
      exact ⟨⟨_, _, _, _, _, _, _, _, rfl⟩, g3.trans g4⟩
    · rintro σ H3 _
      exact fin _

end
-- dn tape : dn_tape @ctx B F__law_tape
-- dn take : dn_take @ctx B F__law_take
-- dn turns : dn_turns @ctx B F__law_turns D_take
-- dn parents : dn_parents @ctx B F__law_parents D_take D_turns
-- dn kinds : dn_kinds @ctx B F__law_kinds D_take
-- dn way : dn_way @ctx B F_way_ends
-- dn ranked : dn_ranked @ctx B F_is_ranked
-- dn check : dn_check @ctx B Gc F_check_forest D_way D_ranked
-- dn init : dn_init @ctx B T_Forest F_Forest____init__ D_check
-- dn path : dn_path @ctx B T_Forest F_Forest__path
-- dn roots : dn_roots @ctx B T_Forest F_Forest__roots
-- dn leaves : dn_leaves @ctx B T_Forest F_Forest__leaves
-- dn fair : dn_fair @ctx B T_Forest F_Forest__fair
-- dn children : dn_children @ctx B T_Forest F_Forest__children
-- dn beneath : dn_beneath @ctx B T_Forest F_Forest__beneath D_path
-- dn word : dn_word @ctx B T_Forest F_Forest__word D_path
-- dn turned : dn_turned @ctx B Gc T_Forest F_turned_forest D_init
-- dn mirror : dn_mirror @ctx B Gc T_Forest F_mirror_forest D_init
-- dn lpath : dn_lpath @ctx B F__law_path
-- dn lword : dn_lword @ctx B F__law_word D_lpath
-- dn isint : dn_isint @ctx B F__law_is_integer
-- dn same : dn_samep @ctx B F__law_same D_isint
-- dn texts : dn_texts @ctx B F__law_texts
-- dn samew : dn_samew @ctx B F__law_same_word D_isint
-- dn shown : dn_shown @ctx B T_Forest F__law_shown D_isint D_same D_texts
-- dn fits : dn_fits @ctx B T_Forest F__law_fits D_shown D_same D_samew D_lpath D_lword D_roots D_leaves D_fair D_children D_path D_word D_beneath
-- dn exch : dn_exch @ctx B F__law_exchanged
-- dn law : ok_law @ctx B @Q D_tape D_take D_parents D_kinds D_init D_fits D_turned D_mirror D_exch
/-! ### the program's top -/
set_option maxHeartbeats 0 in
theorem all_mk {l : PySem.W.OpenLaw} {w : World} {K : PySem.W.Frag} {h : Heap} {mg : Str → Option Value} {fa : Addr} (X : K.In h) (G : h.Ns mainGlobals mg) (hfa : mg "law" = some (.ref fa))
    {C_Forest : Addr}
    {f1 : Addr} {od1 an1 : Option Addr} {sl1 : Array (Option Value)} {oc1 kV1 dc1 pm1 cd1 ct1 : Value}
    {f2 : Addr} {od2 an2 : Option Addr} {sl2 : Array (Option Value)} {oc2 kV2 dc2 pm2 cd2 ct2 : Value}
    {f3 : Addr} {od3 an3 : Option Addr} {sl3 : Array (Option Value)} {oc3 kV3 dc3 pm3 cd3 ct3 : Value}
    {f4 : Addr} {od4 an4 : Option Addr} {sl4 : Array (Option Value)} {oc4 kV4 dc4 pm4 cd4 ct4 : Value}
    {f5 : Addr} {od5 an5 : Option Addr} {sl5 : Array (Option Value)} {oc5 kV5 dc5 pm5 cd5 ct5 : Value}
    {f6 : Addr} {od6 an6 : Option Addr} {sl6 : Array (Option Value)} {oc6 kV6 dc6 pm6 cd6 ct6 : Value}
    {f7 : Addr} {od7 an7 : Option Addr} {sl7 : Array (Option Value)} {oc7 kV7 dc7 pm7 cd7 ct7 : Value}
    {f8 : Addr} {od8 an8 : Option Addr} {sl8 : Array (Option Value)} {oc8 kV8 dc8 pm8 cd8 ct8 : Value}
    {f9 : Addr} {od9 an9 : Option Addr} {sl9 : Array (Option Value)} {oc9 kV9 dc9 pm9 cd9 ct9 : Value}
    {f10 : Addr} {od10 an10 : Option Addr} {sl10 : Array (Option Value)} {oc10 kV10 dc10 pm10 cd10 ct10 : Value}
    {f11 : Addr} {od11 an11 : Option Addr} {sl11 : Array (Option Value)} {oc11 kV11 dc11 pm11 cd11 ct11 : Value}
    {f12 : Addr} {od12 an12 : Option Addr} {sl12 : Array (Option Value)} {oc12 kV12 dc12 pm12 cd12 ct12 : Value}
    {f13 : Addr} {od13 an13 : Option Addr} {sl13 : Array (Option Value)} {oc13 kV13 dc13 pm13 cd13 ct13 : Value}
    {f14 : Addr} {od14 an14 : Option Addr} {sl14 : Array (Option Value)} {oc14 kV14 dc14 pm14 cd14 ct14 : Value}
    {f15 : Addr} {od15 an15 : Option Addr} {sl15 : Array (Option Value)} {oc15 kV15 dc15 pm15 cd15 ct15 : Value}
    {f16 : Addr} {od16 an16 : Option Addr} {sl16 : Array (Option Value)} {oc16 kV16 dc16 pm16 cd16 ct16 : Value}
    {f17 : Addr} {od17 an17 : Option Addr} {sl17 : Array (Option Value)} {oc17 kV17 dc17 pm17 cd17 ct17 : Value}
    {f18 : Addr} {od18 an18 : Option Addr} {sl18 : Array (Option Value)} {oc18 kV18 dc18 pm18 cd18 ct18 : Value}
    {f19 : Addr} {od19 an19 : Option Addr} {sl19 : Array (Option Value)} {oc19 kV19 dc19 pm19 cd19 ct19 : Value}
    {f20 : Addr} {od20 an20 : Option Addr} {sl20 : Array (Option Value)} {oc20 kV20 dc20 pm20 cd20 ct20 : Value}
    {f21 : Addr} {od21 an21 : Option Addr} {sl21 : Array (Option Value)} {oc21 kV21 dc21 pm21 cd21 ct21 : Value}
    {f22 : Addr} {od22 an22 : Option Addr} {sl22 : Array (Option Value)} {oc22 kV22 dc22 pm22 cd22 ct22 : Value}
    {f23 : Addr} {od23 an23 : Option Addr} {sl23 : Array (Option Value)} {oc23 kV23 dc23 pm23 cd23 ct23 : Value}
    {f24 : Addr} {od24 an24 : Option Addr} {sl24 : Array (Option Value)} {oc24 kV24 dc24 pm24 cd24 ct24 : Value}
    {f25 : Addr} {od25 an25 : Option Addr} {sl25 : Array (Option Value)} {oc25 kV25 dc25 pm25 cd25 ct25 : Value}
    {f26 : Addr} {od26 an26 : Option Addr} {sl26 : Array (Option Value)} {oc26 kV26 dc26 pm26 cd26 ct26 : Value}
    {f27 : Addr} {od27 an27 : Option Addr} {sl27 : Array (Option Value)} {oc27 kV27 dc27 pm27 cd27 ct27 : Value}
    {f28 : Addr} {od28 an28 : Option Addr} {sl28 : Array (Option Value)} {oc28 kV28 dc28 pm28 cd28 ct28 : Value}
    {f29 : Addr} {od29 an29 : Option Addr} {sl29 : Array (Option Value)} {oc29 kV29 dc29 pm29 cd29 ct29 : Value}
    {p29 : Addr} {rs29 : List Value}
    {f30 : Addr} {od30 an30 : Option Addr} {sl30 : Array (Option Value)} {oc30 kV30 dc30 pm30 cd30 ct30 : Value}
    {p30 : Addr} {rs30 : List Value}
    {f31 : Addr} {od31 an31 : Option Addr} {sl31 : Array (Option Value)} {oc31 kV31 dc31 pm31 cd31 ct31 : Value}
    {p31 : Addr} {rs31 : List Value}
    {f32 : Addr} {od32 an32 : Option Addr} {sl32 : Array (Option Value)} {oc32 kV32 dc32 pm32 cd32 ct32 : Value}
    {f33 : Addr} {od33 an33 : Option Addr} {sl33 : Array (Option Value)} {oc33 kV33 dc33 pm33 cd33 ct33 : Value}
    {f34 : Addr} {od34 an34 : Option Addr} {sl34 : Array (Option Value)} {oc34 kV34 dc34 pm34 cd34 ct34 : Value}
    {f35 : Addr} {od35 an35 : Option Addr} {sl35 : Array (Option Value)} {oc35 kV35 dc35 pm35 cd35 ct35 : Value}
    {a_MIRRORED : Addr} {es_MIRRORED : Array DictEntry} {n_MIRRORED : Nat}
    {t_MIRRORED0 : Tok}
    {t_MIRRORED1 : Tok}
    {t_MIRRORED2 : Tok}
    {t_MIRRORED3 : Tok}
    {t_MOST_FIELDS : Tok}
    {a_TURNED : Addr} {es_TURNED : Array DictEntry} {n_TURNED : Nat}
    {t_TURNED0 : Tok}
    {t_TURNED1 : Tok}
    {t_TURNED2 : Tok}
    {t_TURNED3 : Tok}
    (aC_Forest : PySem.W.nsIn K mainGlobals "Forest" = some (some (.ref C_Forest)))
    (pg_Forest : PySem.W.plainGet K C_Forest Str.empty = true)
    (hd_Forest : PySem.W.hasDictIn K C_Forest = true)
    (po_Forest : PySem.W.plainOver K C_Forest = true)
    (sa_Forest : PySem.W.findIn K (.ref C_Forest) "__setattr__" = some (some (.builtin "object.__setattr__")))
    (mk_Forest : PySem.W.makesIn K C_Forest = true)
    (kc_Forest : PySem.W.keepIn K (.ref C_Forest) = true)
    (n_Forest_fields : PySem.W.findIn K (.ref C_Forest) "fields" = some none)
    (n_Forest_parents : PySem.W.findIn K (.ref C_Forest) "parents" = some none)
    (n_Forest_kinds : PySem.W.findIn K (.ref C_Forest) "kinds" = some none)
    (a1 : PySem.W.nsIn K mainGlobals "sign" = some (some (.ref f1)))
    (l1 : K.lookup f1 = some ⟨oc1, od1, .func (PySem.W.fnOf "sign" "sign" (defArgs s_sign) (defBody s_sign) (defScope s_sign) .none kV1 dc1 pm1 an1 cd1 ct1), sl1⟩)
    (c1 : PySem.W.codeIn K cd1 "sign" = true)
    (k1 : PySem.W.keepIn K (.ref f1) = true)
    (a2 : PySem.W.nsIn K mainGlobals "signs" = some (some (.ref f2)))
    (l2 : K.lookup f2 = some ⟨oc2, od2, .func (PySem.W.fnOf "signs" "signs" (defArgs s_signs) (defBody s_signs) (defScope s_signs) .none kV2 dc2 pm2 an2 cd2 ct2), sl2⟩)
    (c2 : PySem.W.codeIn K cd2 "signs" = true)
    (k2 : PySem.W.keepIn K (.ref f2) = true)
    (a3 : PySem.W.nsIn K mainGlobals "check_record" = some (some (.ref f3)))
    (l3 : K.lookup f3 = some ⟨oc3, od3, .func (PySem.W.fnOf "check_record" "check_record" (defArgs s_check_record) (defBody s_check_record) (defScope s_check_record) .none kV3 dc3 pm3 an3 cd3 ct3), sl3⟩)
    (c3 : PySem.W.codeIn K cd3 "check_record" = true)
    (k3 : PySem.W.keepIn K (.ref f3) = true)
    (a4 : PySem.W.nsIn K mainGlobals "is_ranked" = some (some (.ref f4)))
    (l4 : K.lookup f4 = some ⟨oc4, od4, .func (PySem.W.fnOf "is_ranked" "is_ranked" (defArgs s_is_ranked) (defBody s_is_ranked) (defScope s_is_ranked) .none kV4 dc4 pm4 an4 cd4 ct4), sl4⟩)
    (c4 : PySem.W.codeIn K cd4 "is_ranked" = true)
    (k4 : PySem.W.keepIn K (.ref f4) = true)
    (a5 : PySem.W.nsIn K mainGlobals "side_by" = some (some (.ref f5)))
    (l5 : K.lookup f5 = some ⟨oc5, od5, .func (PySem.W.fnOf "side_by" "side_by" (defArgs s_side_by) (defBody s_side_by) (defScope s_side_by) .none kV5 dc5 pm5 an5 cd5 ct5), sl5⟩)
    (c5 : PySem.W.codeIn K cd5 "side_by" = true)
    (k5 : PySem.W.keepIn K (.ref f5) = true)
    (a6 : PySem.W.nsIn K mainGlobals "way_ends" = some (some (.ref f6)))
    (l6 : K.lookup f6 = some ⟨oc6, od6, .func (PySem.W.fnOf "way_ends" "way_ends" (defArgs s_way_ends) (defBody s_way_ends) (defScope s_way_ends) .none kV6 dc6 pm6 an6 cd6 ct6), sl6⟩)
    (c6 : PySem.W.codeIn K cd6 "way_ends" = true)
    (k6 : PySem.W.keepIn K (.ref f6) = true)
    (a7 : PySem.W.nsIn K mainGlobals "check_forest" = some (some (.ref f7)))
    (l7 : K.lookup f7 = some ⟨oc7, od7, .func (PySem.W.fnOf "check_forest" "check_forest" (defArgs s_check_forest) (defBody s_check_forest) (defScope s_check_forest) .none kV7 dc7 pm7 an7 cd7 ct7), sl7⟩)
    (c7 : PySem.W.codeIn K cd7 "check_forest" = true)
    (k7 : PySem.W.keepIn K (.ref f7) = true)
    (a8 : PySem.W.nsIn K mainGlobals "first_marked" = some (some (.ref f8)))
    (l8 : K.lookup f8 = some ⟨oc8, od8, .func (PySem.W.fnOf "first_marked" "first_marked" (defArgs s_first_marked) (defBody s_first_marked) (defScope s_first_marked) .none kV8 dc8 pm8 an8 cd8 ct8), sl8⟩)
    (c8 : PySem.W.codeIn K cd8 "first_marked" = true)
    (k8 : PySem.W.keepIn K (.ref f8) = true)
    (a9 : PySem.W.nsIn K mainGlobals "forest_side" = some (some (.ref f9)))
    (l9 : K.lookup f9 = some ⟨oc9, od9, .func (PySem.W.fnOf "forest_side" "forest_side" (defArgs s_forest_side) (defBody s_forest_side) (defScope s_forest_side) .none kV9 dc9 pm9 an9 cd9 ct9), sl9⟩)
    (c9 : PySem.W.codeIn K cd9 "forest_side" = true)
    (k9 : PySem.W.keepIn K (.ref f9) = true)
    (a10 : PySem.W.nsIn K mainGlobals "turned_forest" = some (some (.ref f10)))
    (l10 : K.lookup f10 = some ⟨oc10, od10, .func (PySem.W.fnOf "turned_forest" "turned_forest" (defArgs s_turned_forest) (defBody s_turned_forest) (defScope s_turned_forest) .none kV10 dc10 pm10 an10 cd10 ct10), sl10⟩)
    (c10 : PySem.W.codeIn K cd10 "turned_forest" = true)
    (k10 : PySem.W.keepIn K (.ref f10) = true)
    (a11 : PySem.W.nsIn K mainGlobals "mirror_forest" = some (some (.ref f11)))
    (l11 : K.lookup f11 = some ⟨oc11, od11, .func (PySem.W.fnOf "mirror_forest" "mirror_forest" (defArgs s_mirror_forest) (defBody s_mirror_forest) (defScope s_mirror_forest) .none kV11 dc11 pm11 an11 cd11 ct11), sl11⟩)
    (c11 : PySem.W.codeIn K cd11 "mirror_forest" = true)
    (k11 : PySem.W.keepIn K (.ref f11) = true)
    (a12 : PySem.W.nsIn K mainGlobals "_law_tape" = some (some (.ref f12)))
    (l12 : K.lookup f12 = some ⟨oc12, od12, .func (PySem.W.fnOf "_law_tape" "_law_tape" (defArgs s__law_tape) (defBody s__law_tape) (defScope s__law_tape) .none kV12 dc12 pm12 an12 cd12 ct12), sl12⟩)
    (c12 : PySem.W.codeIn K cd12 "_law_tape" = true)
    (k12 : PySem.W.keepIn K (.ref f12) = true)
    (a13 : PySem.W.nsIn K mainGlobals "_law_take" = some (some (.ref f13)))
    (l13 : K.lookup f13 = some ⟨oc13, od13, .func (PySem.W.fnOf "_law_take" "_law_take" (defArgs s__law_take) (defBody s__law_take) (defScope s__law_take) .none kV13 dc13 pm13 an13 cd13 ct13), sl13⟩)
    (c13 : PySem.W.codeIn K cd13 "_law_take" = true)
    (k13 : PySem.W.keepIn K (.ref f13) = true)
    (a14 : PySem.W.nsIn K mainGlobals "_law_turns" = some (some (.ref f14)))
    (l14 : K.lookup f14 = some ⟨oc14, od14, .func (PySem.W.fnOf "_law_turns" "_law_turns" (defArgs s__law_turns) (defBody s__law_turns) (defScope s__law_turns) .none kV14 dc14 pm14 an14 cd14 ct14), sl14⟩)
    (c14 : PySem.W.codeIn K cd14 "_law_turns" = true)
    (k14 : PySem.W.keepIn K (.ref f14) = true)
    (a15 : PySem.W.nsIn K mainGlobals "_law_parents" = some (some (.ref f15)))
    (l15 : K.lookup f15 = some ⟨oc15, od15, .func (PySem.W.fnOf "_law_parents" "_law_parents" (defArgs s__law_parents) (defBody s__law_parents) (defScope s__law_parents) .none kV15 dc15 pm15 an15 cd15 ct15), sl15⟩)
    (c15 : PySem.W.codeIn K cd15 "_law_parents" = true)
    (k15 : PySem.W.keepIn K (.ref f15) = true)
    (a16 : PySem.W.nsIn K mainGlobals "_law_kinds" = some (some (.ref f16)))
    (l16 : K.lookup f16 = some ⟨oc16, od16, .func (PySem.W.fnOf "_law_kinds" "_law_kinds" (defArgs s__law_kinds) (defBody s__law_kinds) (defScope s__law_kinds) .none kV16 dc16 pm16 an16 cd16 ct16), sl16⟩)
    (c16 : PySem.W.codeIn K cd16 "_law_kinds" = true)
    (k16 : PySem.W.keepIn K (.ref f16) = true)
    (a17 : PySem.W.nsIn K mainGlobals "_law_path" = some (some (.ref f17)))
    (l17 : K.lookup f17 = some ⟨oc17, od17, .func (PySem.W.fnOf "_law_path" "_law_path" (defArgs s__law_path) (defBody s__law_path) (defScope s__law_path) .none kV17 dc17 pm17 an17 cd17 ct17), sl17⟩)
    (c17 : PySem.W.codeIn K cd17 "_law_path" = true)
    (k17 : PySem.W.keepIn K (.ref f17) = true)
    (a18 : PySem.W.nsIn K mainGlobals "_law_word" = some (some (.ref f18)))
    (l18 : K.lookup f18 = some ⟨oc18, od18, .func (PySem.W.fnOf "_law_word" "_law_word" (defArgs s__law_word) (defBody s__law_word) (defScope s__law_word) .none kV18 dc18 pm18 an18 cd18 ct18), sl18⟩)
    (c18 : PySem.W.codeIn K cd18 "_law_word" = true)
    (k18 : PySem.W.keepIn K (.ref f18) = true)
    (a19 : PySem.W.nsIn K mainGlobals "_law_is_integer" = some (some (.ref f19)))
    (l19 : K.lookup f19 = some ⟨oc19, od19, .func (PySem.W.fnOf "_law_is_integer" "_law_is_integer" (defArgs s__law_is_integer) (defBody s__law_is_integer) (defScope s__law_is_integer) .none kV19 dc19 pm19 an19 cd19 ct19), sl19⟩)
    (c19 : PySem.W.codeIn K cd19 "_law_is_integer" = true)
    (k19 : PySem.W.keepIn K (.ref f19) = true)
    (a20 : PySem.W.nsIn K mainGlobals "_law_same" = some (some (.ref f20)))
    (l20 : K.lookup f20 = some ⟨oc20, od20, .func (PySem.W.fnOf "_law_same" "_law_same" (defArgs s__law_same) (defBody s__law_same) (defScope s__law_same) .none kV20 dc20 pm20 an20 cd20 ct20), sl20⟩)
    (c20 : PySem.W.codeIn K cd20 "_law_same" = true)
    (k20 : PySem.W.keepIn K (.ref f20) = true)
    (a21 : PySem.W.nsIn K mainGlobals "_law_texts" = some (some (.ref f21)))
    (l21 : K.lookup f21 = some ⟨oc21, od21, .func (PySem.W.fnOf "_law_texts" "_law_texts" (defArgs s__law_texts) (defBody s__law_texts) (defScope s__law_texts) .none kV21 dc21 pm21 an21 cd21 ct21), sl21⟩)
    (c21 : PySem.W.codeIn K cd21 "_law_texts" = true)
    (k21 : PySem.W.keepIn K (.ref f21) = true)
    (a22 : PySem.W.nsIn K mainGlobals "_law_same_word" = some (some (.ref f22)))
    (l22 : K.lookup f22 = some ⟨oc22, od22, .func (PySem.W.fnOf "_law_same_word" "_law_same_word" (defArgs s__law_same_word) (defBody s__law_same_word) (defScope s__law_same_word) .none kV22 dc22 pm22 an22 cd22 ct22), sl22⟩)
    (c22 : PySem.W.codeIn K cd22 "_law_same_word" = true)
    (k22 : PySem.W.keepIn K (.ref f22) = true)
    (a23 : PySem.W.nsIn K mainGlobals "_law_shown" = some (some (.ref f23)))
    (l23 : K.lookup f23 = some ⟨oc23, od23, .func (PySem.W.fnOf "_law_shown" "_law_shown" (defArgs s__law_shown) (defBody s__law_shown) (defScope s__law_shown) .none kV23 dc23 pm23 an23 cd23 ct23), sl23⟩)
    (c23 : PySem.W.codeIn K cd23 "_law_shown" = true)
    (k23 : PySem.W.keepIn K (.ref f23) = true)
    (a24 : PySem.W.nsIn K mainGlobals "_law_fits" = some (some (.ref f24)))
    (l24 : K.lookup f24 = some ⟨oc24, od24, .func (PySem.W.fnOf "_law_fits" "_law_fits" (defArgs s__law_fits) (defBody s__law_fits) (defScope s__law_fits) .none kV24 dc24 pm24 an24 cd24 ct24), sl24⟩)
    (c24 : PySem.W.codeIn K cd24 "_law_fits" = true)
    (k24 : PySem.W.keepIn K (.ref f24) = true)
    (a25 : PySem.W.nsIn K mainGlobals "_law_exchanged" = some (some (.ref f25)))
    (l25 : K.lookup f25 = some ⟨oc25, od25, .func (PySem.W.fnOf "_law_exchanged" "_law_exchanged" (defArgs s__law_exchanged) (defBody s__law_exchanged) (defScope s__law_exchanged) .none kV25 dc25 pm25 an25 cd25 ct25), sl25⟩)
    (c25 : PySem.W.codeIn K cd25 "_law_exchanged" = true)
    (k25 : PySem.W.keepIn K (.ref f25) = true)
    (a26 : PySem.W.nsIn K mainGlobals "law" = some (some (.ref f26)))
    (l26 : K.lookup f26 = some ⟨oc26, od26, .func (PySem.W.fnOf "law" "law" (defArgs s_law) (defBody s_law) (defScope s_law) .none kV26 dc26 pm26 an26 cd26 ct26), sl26⟩)
    (c26 : PySem.W.codeIn K cd26 "law" = true)
    (k26 : PySem.W.keepIn K (.ref f26) = true)
    (a27 : PySem.W.findIn K (.ref C_Forest) "__init__" = some (some (.ref f27)))
    (i27 : PySem.W.isFn K (.ref f27) = true)
    (l27 : K.lookup f27 = some ⟨oc27, od27, .func (PySem.W.fnOf "__init__" "Forest.__init__" (defArgs s_Forest____init__) (defBody s_Forest____init__) (defScope s_Forest____init__) .none kV27 dc27 pm27 an27 cd27 ct27), sl27⟩)
    (c27 : PySem.W.codeIn K cd27 "Forest.__init__" = true)
    (k27 : PySem.W.keepIn K (.ref f27) = true)
    (a28 : PySem.W.findIn K (.ref C_Forest) "__call__" = some (some (.ref f28)))
    (i28 : PySem.W.isFn K (.ref f28) = true)
    (l28 : K.lookup f28 = some ⟨oc28, od28, .func (PySem.W.fnOf "__call__" "Forest.__call__" (defArgs s_Forest____call__) (defBody s_Forest____call__) (defScope s_Forest____call__) .none kV28 dc28 pm28 an28 cd28 ct28), sl28⟩)
    (c28 : PySem.W.codeIn K cd28 "Forest.__call__" = true)
    (k28 : PySem.W.keepIn K (.ref f28) = true)
    (a29 : PySem.W.findIn K (.ref C_Forest) "roots" = some (some (.ref p29)))
    (pget29 : PySem.W.specialIn K (.ref p29) "__get__" = some (some (.builtin "property.__get__")))
    (ptak29 : PySem.W.takesIn K (.ref p29) = some true)
    (prec29 : PySem.W.recIn K p29 "property" = some (.ref f29 :: rs29))
    (l29 : K.lookup f29 = some ⟨oc29, od29, .func (PySem.W.fnOf "roots" "Forest.roots" (defArgs s_Forest__roots) (defBody s_Forest__roots) (defScope s_Forest__roots) .none kV29 dc29 pm29 an29 cd29 ct29), sl29⟩)
    (c29 : PySem.W.codeIn K cd29 "Forest.roots" = true)
    (k29 : PySem.W.keepIn K (.ref f29) = true)
    (a30 : PySem.W.findIn K (.ref C_Forest) "leaves" = some (some (.ref p30)))
    (pget30 : PySem.W.specialIn K (.ref p30) "__get__" = some (some (.builtin "property.__get__")))
    (ptak30 : PySem.W.takesIn K (.ref p30) = some true)
    (prec30 : PySem.W.recIn K p30 "property" = some (.ref f30 :: rs30))
    (l30 : K.lookup f30 = some ⟨oc30, od30, .func (PySem.W.fnOf "leaves" "Forest.leaves" (defArgs s_Forest__leaves) (defBody s_Forest__leaves) (defScope s_Forest__leaves) .none kV30 dc30 pm30 an30 cd30 ct30), sl30⟩)
    (c30 : PySem.W.codeIn K cd30 "Forest.leaves" = true)
    (k30 : PySem.W.keepIn K (.ref f30) = true)
    (a31 : PySem.W.findIn K (.ref C_Forest) "fair" = some (some (.ref p31)))
    (pget31 : PySem.W.specialIn K (.ref p31) "__get__" = some (some (.builtin "property.__get__")))
    (ptak31 : PySem.W.takesIn K (.ref p31) = some true)
    (prec31 : PySem.W.recIn K p31 "property" = some (.ref f31 :: rs31))
    (l31 : K.lookup f31 = some ⟨oc31, od31, .func (PySem.W.fnOf "fair" "Forest.fair" (defArgs s_Forest__fair) (defBody s_Forest__fair) (defScope s_Forest__fair) .none kV31 dc31 pm31 an31 cd31 ct31), sl31⟩)
    (c31 : PySem.W.codeIn K cd31 "Forest.fair" = true)
    (k31 : PySem.W.keepIn K (.ref f31) = true)
    (a32 : PySem.W.findIn K (.ref C_Forest) "path" = some (some (.ref f32)))
    (i32 : PySem.W.isFn K (.ref f32) = true)
    (l32 : K.lookup f32 = some ⟨oc32, od32, .func (PySem.W.fnOf "path" "Forest.path" (defArgs s_Forest__path) (defBody s_Forest__path) (defScope s_Forest__path) .none kV32 dc32 pm32 an32 cd32 ct32), sl32⟩)
    (c32 : PySem.W.codeIn K cd32 "Forest.path" = true)
    (k32 : PySem.W.keepIn K (.ref f32) = true)
    (a33 : PySem.W.findIn K (.ref C_Forest) "word" = some (some (.ref f33)))
    (i33 : PySem.W.isFn K (.ref f33) = true)
    (l33 : K.lookup f33 = some ⟨oc33, od33, .func (PySem.W.fnOf "word" "Forest.word" (defArgs s_Forest__word) (defBody s_Forest__word) (defScope s_Forest__word) .none kV33 dc33 pm33 an33 cd33 ct33), sl33⟩)
    (c33 : PySem.W.codeIn K cd33 "Forest.word" = true)
    (k33 : PySem.W.keepIn K (.ref f33) = true)
    (a34 : PySem.W.findIn K (.ref C_Forest) "children" = some (some (.ref f34)))
    (i34 : PySem.W.isFn K (.ref f34) = true)
    (l34 : K.lookup f34 = some ⟨oc34, od34, .func (PySem.W.fnOf "children" "Forest.children" (defArgs s_Forest__children) (defBody s_Forest__children) (defScope s_Forest__children) .none kV34 dc34 pm34 an34 cd34 ct34), sl34⟩)
    (c34 : PySem.W.codeIn K cd34 "Forest.children" = true)
    (k34 : PySem.W.keepIn K (.ref f34) = true)
    (a35 : PySem.W.findIn K (.ref C_Forest) "beneath" = some (some (.ref f35)))
    (i35 : PySem.W.isFn K (.ref f35) = true)
    (l35 : K.lookup f35 = some ⟨oc35, od35, .func (PySem.W.fnOf "beneath" "Forest.beneath" (defArgs s_Forest__beneath) (defBody s_Forest__beneath) (defScope s_Forest__beneath) .none kV35 dc35 pm35 an35 cd35 ct35), sl35⟩)
    (c35 : PySem.W.codeIn K cd35 "Forest.beneath" = true)
    (k35 : PySem.W.keepIn K (.ref f35) = true)
    (z_abs : PySem.W.nsIn K mainGlobals "abs" = some none)
    (z_bool : PySem.W.nsIn K mainGlobals "bool" = some none)
    (z_enumerate : PySem.W.nsIn K mainGlobals "enumerate" = some none)
    (z_int : PySem.W.nsIn K mainGlobals "int" = some none)
    (z_isinstance : PySem.W.nsIn K mainGlobals "isinstance" = some none)
    (z_len : PySem.W.nsIn K mainGlobals "len" = some none)
    (z_list : PySem.W.nsIn K mainGlobals "list" = some none)
    (z_range : PySem.W.nsIn K mainGlobals "range" = some none)
    (z_str : PySem.W.nsIn K mainGlobals "str" = some none)
    (z_tuple : PySem.W.nsIn K mainGlobals "tuple" = some none)
    (u_MIRRORED : PySem.W.nsIn K mainGlobals "MIRRORED" = some (some (.ref a_MIRRORED)))
    (d_MIRRORED : K.lookup a_MIRRORED = some ⟨.type "dict", none, .dict es_MIRRORED n_MIRRORED, #[]⟩)
    (y_MIRRORED : PySem.W.KeysLit w.params es_MIRRORED.toList)
    (v_MIRRORED0 : PySem.W.nsIn K a_MIRRORED "up" = some (some (.str "up" t_MIRRORED0)))
    (v_MIRRORED1 : PySem.W.nsIn K a_MIRRORED "down" = some (some (.str "down" t_MIRRORED1)))
    (v_MIRRORED2 : PySem.W.nsIn K a_MIRRORED "first" = some (some (.str "last" t_MIRRORED2)))
    (v_MIRRORED3 : PySem.W.nsIn K a_MIRRORED "last" = some (some (.str "first" t_MIRRORED3)))
    (u_MOST_FIELDS : PySem.W.nsIn K mainGlobals "MOST_FIELDS" = some (some (.int 16 t_MOST_FIELDS)))
    (u_TURNED : PySem.W.nsIn K mainGlobals "TURNED" = some (some (.ref a_TURNED)))
    (d_TURNED : K.lookup a_TURNED = some ⟨.type "dict", none, .dict es_TURNED n_TURNED, #[]⟩)
    (y_TURNED : PySem.W.KeysLit w.params es_TURNED.toList)
    (v_TURNED0 : PySem.W.nsIn K a_TURNED "up" = some (some (.str "down" t_TURNED0)))
    (v_TURNED1 : PySem.W.nsIn K a_TURNED "down" = some (some (.str "up" t_TURNED1)))
    (v_TURNED2 : PySem.W.nsIn K a_TURNED "first" = some (some (.str "first" t_TURNED2)))
    (v_TURNED3 : PySem.W.nsIn K a_TURNED "last" = some (some (.str "last" t_TURNED3)))
    : ∃ fd : FuncData, (∀ (s : Shared) (v : Value), BindsTo s fd ⟨[v], []⟩ [("_law_script", v)]) ∧ ∀ base : Heap, K.In base → base.Ns mainGlobals mg → FnOk l.prog w K mg base CX0 7 fa fd ["_law_script"] (sp_law K) := by
  have e := hfa.symm.trans (PySem.W.mg_of X G a26)
  cases e
  have B : Bts mg := ⟨PySem.W.mg_none_of X G z_abs, PySem.W.mg_none_of X G z_bool, PySem.W.mg_none_of X G z_enumerate, PySem.W.mg_none_of X G z_int, PySem.W.mg_none_of X G z_isinstance, PySem.W.mg_none_of X G z_len, PySem.W.mg_none_of X G z_list, PySem.W.mg_none_of X G z_range, PySem.W.mg_none_of X G z_str, PySem.W.mg_none_of X G z_tuple⟩
  have T_Forest : TForest K mg C_Forest := ⟨⟨pg_Forest, hd_Forest, po_Forest, sa_Forest⟩, n_Forest_fields, n_Forest_parents, n_Forest_kinds, PySem.W.mg_of X G aC_Forest⟩
  have Gc : Gcs K w mg := ⟨⟨_, PySem.W.mg_of X G u_MIRRORED, ⟨_, _, _, d_MIRRORED, y_MIRRORED, v_MIRRORED0, ⟨_, rfl⟩⟩, ⟨_, _, _, d_MIRRORED, y_MIRRORED, v_MIRRORED1, ⟨_, rfl⟩⟩, ⟨_, _, _, d_MIRRORED, y_MIRRORED, v_MIRRORED2, ⟨_, rfl⟩⟩, ⟨_, _, _, d_MIRRORED, y_MIRRORED, v_MIRRORED3, ⟨_, rfl⟩⟩⟩, ⟨_, PySem.W.mg_of X G u_MOST_FIELDS⟩, ⟨_, PySem.W.mg_of X G u_TURNED, ⟨_, _, _, d_TURNED, y_TURNED, v_TURNED0, ⟨_, rfl⟩⟩, ⟨_, _, _, d_TURNED, y_TURNED, v_TURNED1, ⟨_, rfl⟩⟩, ⟨_, _, _, d_TURNED, y_TURNED, v_TURNED2, ⟨_, rfl⟩⟩, ⟨_, _, _, d_TURNED, y_TURNED, v_TURNED3, ⟨_, rfl⟩⟩⟩⟩
  have Q1 := fun_mk (st := s_sign) l1 c1 k1
  have F_sign : Df K mg "sign" s_sign P_sign := ⟨_, _, Q1, Q1.binds (ps := P_sign) fun _ _ _ _ _ _ us hl => match us, hl with | [_, _], _ => rfl, PySem.W.mg_of X G a1⟩
  have Q2 := fun_mk (st := s_signs) l2 c2 k2
  have F_signs : Df K mg "signs" s_signs P_signs := ⟨_, _, Q2, Q2.binds (ps := P_signs) fun _ _ _ _ _ _ us hl => match us, hl with | [_, _], _ => rfl, PySem.W.mg_of X G a2⟩
  have Q3 := fun_mk (st := s_check_record) l3 c3 k3
  have F_check_record : Df K mg "check_record" s_check_record P_check_record := ⟨_, _, Q3, Q3.binds (ps := P_check_record) fun _ _ _ _ _ _ us hl => match us, hl with | [_, _], _ => rfl, PySem.W.mg_of X G a3⟩
  have Q4 := fun_mk (st := s_is_ranked) l4 c4 k4
  have F_is_ranked : Df K mg "is_ranked" s_is_ranked P_is_ranked := ⟨_, _, Q4, Q4.binds (ps := P_is_ranked) fun _ _ _ _ _ _ us hl => match us, hl with | [_], _ => rfl, PySem.W.mg_of X G a4⟩
  have Q5 := fun_mk (st := s_side_by) l5 c5 k5
  have F_side_by : Df K mg "side_by" s_side_by P_side_by := ⟨_, _, Q5, Q5.binds (ps := P_side_by) fun _ _ _ _ _ _ us hl => match us, hl with | [_, _], _ => rfl, PySem.W.mg_of X G a5⟩
  have Q6 := fun_mk (st := s_way_ends) l6 c6 k6
  have F_way_ends : Df K mg "way_ends" s_way_ends P_way_ends := ⟨_, _, Q6, Q6.binds (ps := P_way_ends) fun _ _ _ _ _ _ us hl => match us, hl with | [_, _], _ => rfl, PySem.W.mg_of X G a6⟩
  have Q7 := fun_mk (st := s_check_forest) l7 c7 k7
  have F_check_forest : Df K mg "check_forest" s_check_forest P_check_forest := ⟨_, _, Q7, Q7.binds (ps := P_check_forest) fun _ _ _ _ _ _ us hl => match us, hl with | [_, _], _ => rfl, PySem.W.mg_of X G a7⟩
  have Q8 := fun_mk (st := s_first_marked) l8 c8 k8
  have F_first_marked : Df K mg "first_marked" s_first_marked P_first_marked := ⟨_, _, Q8, Q8.binds (ps := P_first_marked) fun _ _ _ _ _ _ us hl => match us, hl with | [_, _, _], _ => rfl, PySem.W.mg_of X G a8⟩
  have Q9 := fun_mk (st := s_forest_side) l9 c9 k9
  have F_forest_side : Df K mg "forest_side" s_forest_side P_forest_side := ⟨_, _, Q9, Q9.binds (ps := P_forest_side) fun _ _ _ _ _ _ us hl => match us, hl with | [_, _, _], _ => rfl, PySem.W.mg_of X G a9⟩
  have Q10 := fun_mk (st := s_turned_forest) l10 c10 k10
  have F_turned_forest : Df K mg "turned_forest" s_turned_forest P_turned_forest := ⟨_, _, Q10, Q10.binds (ps := P_turned_forest) fun _ _ _ _ _ _ us hl => match us, hl with | [_], _ => rfl, PySem.W.mg_of X G a10⟩
  have Q11 := fun_mk (st := s_mirror_forest) l11 c11 k11
  have F_mirror_forest : Df K mg "mirror_forest" s_mirror_forest P_mirror_forest := ⟨_, _, Q11, Q11.binds (ps := P_mirror_forest) fun _ _ _ _ _ _ us hl => match us, hl with | [_], _ => rfl, PySem.W.mg_of X G a11⟩
  have Q12 := fun_mk (st := s__law_tape) l12 c12 k12
  have F__law_tape : Df K mg "_law_tape" s__law_tape P__law_tape := ⟨_, _, Q12, Q12.binds (ps := P__law_tape) fun _ _ _ _ _ _ us hl => match us, hl with | [_, _], _ => rfl, PySem.W.mg_of X G a12⟩
  have Q13 := fun_mk (st := s__law_take) l13 c13 k13
  have F__law_take : Df K mg "_law_take" s__law_take P__law_take := ⟨_, _, Q13, Q13.binds (ps := P__law_take) fun _ _ _ _ _ _ us hl => match us, hl with | [_, _], _ => rfl, PySem.W.mg_of X G a13⟩
  have Q14 := fun_mk (st := s__law_turns) l14 c14 k14
  have F__law_turns : Df K mg "_law_turns" s__law_turns P__law_turns := ⟨_, _, Q14, Q14.binds (ps := P__law_turns) fun _ _ _ _ _ _ us hl => match us, hl with | [_, _], _ => rfl, PySem.W.mg_of X G a14⟩
  have Q15 := fun_mk (st := s__law_parents) l15 c15 k15
  have F__law_parents : Df K mg "_law_parents" s__law_parents P__law_parents := ⟨_, _, Q15, Q15.binds (ps := P__law_parents) fun _ _ _ _ _ _ us hl => match us, hl with | [_, _], _ => rfl, PySem.W.mg_of X G a15⟩
  have Q16 := fun_mk (st := s__law_kinds) l16 c16 k16
  have F__law_kinds : Df K mg "_law_kinds" s__law_kinds P__law_kinds := ⟨_, _, Q16, Q16.binds (ps := P__law_kinds) fun _ _ _ _ _ _ us hl => match us, hl with | [_, _, _], _ => rfl, PySem.W.mg_of X G a16⟩
  have Q17 := fun_mk (st := s__law_path) l17 c17 k17
  have F__law_path : Df K mg "_law_path" s__law_path P__law_path := ⟨_, _, Q17, Q17.binds (ps := P__law_path) fun _ _ _ _ _ _ us hl => match us, hl with | [_, _], _ => rfl, PySem.W.mg_of X G a17⟩
  have Q18 := fun_mk (st := s__law_word) l18 c18 k18
  have F__law_word : Df K mg "_law_word" s__law_word P__law_word := ⟨_, _, Q18, Q18.binds (ps := P__law_word) fun _ _ _ _ _ _ us hl => match us, hl with | [_, _, _], _ => rfl, PySem.W.mg_of X G a18⟩
  have Q19 := fun_mk (st := s__law_is_integer) l19 c19 k19
  have F__law_is_integer : Df K mg "_law_is_integer" s__law_is_integer P__law_is_integer := ⟨_, _, Q19, Q19.binds (ps := P__law_is_integer) fun _ _ _ _ _ _ us hl => match us, hl with | [_], _ => rfl, PySem.W.mg_of X G a19⟩
  have Q20 := fun_mk (st := s__law_same) l20 c20 k20
  have F__law_same : Df K mg "_law_same" s__law_same P__law_same := ⟨_, _, Q20, Q20.binds (ps := P__law_same) fun _ _ _ _ _ _ us hl => match us, hl with | [_, _], _ => rfl, PySem.W.mg_of X G a20⟩
  have Q21 := fun_mk (st := s__law_texts) l21 c21 k21
  have F__law_texts : Df K mg "_law_texts" s__law_texts P__law_texts := ⟨_, _, Q21, Q21.binds (ps := P__law_texts) fun _ _ _ _ _ _ us hl => match us, hl with | [_, _], _ => rfl, PySem.W.mg_of X G a21⟩
  have Q22 := fun_mk (st := s__law_same_word) l22 c22 k22
  have F__law_same_word : Df K mg "_law_same_word" s__law_same_word P__law_same_word := ⟨_, _, Q22, Q22.binds (ps := P__law_same_word) fun _ _ _ _ _ _ us hl => match us, hl with | [_, _], _ => rfl, PySem.W.mg_of X G a22⟩
  have Q23 := fun_mk (st := s__law_shown) l23 c23 k23
  have F__law_shown : Df K mg "_law_shown" s__law_shown P__law_shown := ⟨_, _, Q23, Q23.binds (ps := P__law_shown) fun _ _ _ _ _ _ us hl => match us, hl with | [_, _, _], _ => rfl, PySem.W.mg_of X G a23⟩
  have Q24 := fun_mk (st := s__law_fits) l24 c24 k24
  have F__law_fits : Df K mg "_law_fits" s__law_fits P__law_fits := ⟨_, _, Q24, Q24.binds (ps := P__law_fits) fun _ _ _ _ _ _ us hl => match us, hl with | [_, _, _], _ => rfl, PySem.W.mg_of X G a24⟩
  have Q25 := fun_mk (st := s__law_exchanged) l25 c25 k25
  have F__law_exchanged : Df K mg "_law_exchanged" s__law_exchanged P__law_exchanged := ⟨_, _, Q25, Q25.binds (ps := P__law_exchanged) fun _ _ _ _ _ _ us hl => match us, hl with | [_, _, _], _ => rfl, PySem.W.mg_of X G a25⟩
  have Q26 := fun_mk (st := s_law) l26 c26 k26
  have F_law : Df K mg "law" s_law P_law := ⟨_, _, Q26, Q26.binds (ps := P_law) fun _ _ _ _ _ _ us hl => match us, hl with | [_], _ => rfl, PySem.W.mg_of X G a26⟩
  have Q27 := fun_mk (st := s_Forest____init__) l27 c27 k27
  have F_Forest____init__ : DfI K mg "Forest" C_Forest "Forest.__init__" s_Forest____init__ P_Forest____init__ := ⟨_, _, Q27, Q27.binds (ps := P_Forest____init__) fun _ _ _ _ _ _ us hl => match us, hl with | [_, _, _], _ => rfl, ⟨mk_Forest, a27, i27, kc_Forest⟩, T_Forest.g⟩
  have Q28 := fun_mk (st := s_Forest____call__) l28 c28 k28
  have F_Forest____call__ : DfM K C_Forest "__call__" "Forest.__call__" s_Forest____call__ P_Forest____call__ := ⟨_, _, Q28, Q28.binds (ps := P_Forest____call__) fun _ _ _ _ _ _ us hl => match us, hl with | [_, _, _], _ => rfl, ⟨a28, i28, k28⟩⟩
  have Q29 := fun_mk (st := s_Forest__roots) l29 c29 k29
  have F_Forest__roots : DfP K C_Forest "roots" "Forest.roots" s_Forest__roots P_Forest__roots := ⟨_, _, _, Q29, Q29.binds (ps := P_Forest__roots) fun _ _ _ _ _ _ us hl => match us, hl with | [_], _ => rfl, ⟨a29, pget29, ptak29, ⟨_, prec29⟩⟩⟩
  have Q30 := fun_mk (st := s_Forest__leaves) l30 c30 k30
  have F_Forest__leaves : DfP K C_Forest "leaves" "Forest.leaves" s_Forest__leaves P_Forest__leaves := ⟨_, _, _, Q30, Q30.binds (ps := P_Forest__leaves) fun _ _ _ _ _ _ us hl => match us, hl with | [_], _ => rfl, ⟨a30, pget30, ptak30, ⟨_, prec30⟩⟩⟩
  have Q31 := fun_mk (st := s_Forest__fair) l31 c31 k31
  have F_Forest__fair : DfP K C_Forest "fair" "Forest.fair" s_Forest__fair P_Forest__fair := ⟨_, _, _, Q31, Q31.binds (ps := P_Forest__fair) fun _ _ _ _ _ _ us hl => match us, hl with | [_], _ => rfl, ⟨a31, pget31, ptak31, ⟨_, prec31⟩⟩⟩
  have Q32 := fun_mk (st := s_Forest__path) l32 c32 k32
  have F_Forest__path : DfM K C_Forest "path" "Forest.path" s_Forest__path P_Forest__path := ⟨_, _, Q32, Q32.binds (ps := P_Forest__path) fun _ _ _ _ _ _ us hl => match us, hl with | [_, _], _ => rfl, ⟨a32, i32, k32⟩⟩
  have Q33 := fun_mk (st := s_Forest__word) l33 c33 k33
  have F_Forest__word : DfM K C_Forest "word" "Forest.word" s_Forest__word P_Forest__word := ⟨_, _, Q33, Q33.binds (ps := P_Forest__word) fun _ _ _ _ _ _ us hl => match us, hl with | [_, _], _ => rfl, ⟨a33, i33, k33⟩⟩
  have Q34 := fun_mk (st := s_Forest__children) l34 c34 k34
  have F_Forest__children : DfM K C_Forest "children" "Forest.children" s_Forest__children P_Forest__children := ⟨_, _, Q34, Q34.binds (ps := P_Forest__children) fun _ _ _ _ _ _ us hl => match us, hl with | [_, _], _ => rfl, ⟨a34, i34, k34⟩⟩
  have Q35 := fun_mk (st := s_Forest__beneath) l35 c35 k35
  have F_Forest__beneath : DfM K C_Forest "beneath" "Forest.beneath" s_Forest__beneath P_Forest__beneath := ⟨_, _, Q35, Q35.binds (ps := P_Forest__beneath) fun _ _ _ _ _ _ us hl => match us, hl with | [_, _], _ => rfl, ⟨a35, i35, k35⟩⟩
  refine ⟨PySem.W.fnOf "law" "law" (defArgs s_law) (defBody s_law) (defScope s_law) .none kV26 dc26 pm26 an26 cd26 ct26, fun s v => .of_eq rfl, fun base _ _ => ?_⟩
  have D_tape := dn_tape (P := l.prog) (w := w) (base := base) B F__law_tape
  have D_take := dn_take (P := l.prog) (w := w) (base := base) B F__law_take
  have D_turns := dn_turns (P := l.prog) (w := w) (base := base) B F__law_turns D_take
  have D_parents := dn_parents (P := l.prog) (w := w) (base := base) B F__law_parents D_take D_turns
  have D_kinds := dn_kinds (P := l.prog) (w := w) (base := base) B F__law_kinds D_take
  have D_way := dn_way (P := l.prog) (w := w) (base := base) B F_way_ends
  have D_ranked := dn_ranked (P := l.prog) (w := w) (base := base) B F_is_ranked
  have D_check := dn_check (P := l.prog) (w := w) (base := base) B Gc F_check_forest D_way D_ranked
  have D_init := dn_init (P := l.prog) (w := w) (base := base) B T_Forest F_Forest____init__ D_check
  have D_path := dn_path (P := l.prog) (w := w) (base := base) B T_Forest F_Forest__path
  have D_roots := dn_roots (P := l.prog) (w := w) (base := base) B T_Forest F_Forest__roots
  have D_leaves := dn_leaves (P := l.prog) (w := w) (base := base) B T_Forest F_Forest__leaves
  have D_fair := dn_fair (P := l.prog) (w := w) (base := base) B T_Forest F_Forest__fair
  have D_children := dn_children (P := l.prog) (w := w) (base := base) B T_Forest F_Forest__children
  have D_beneath := dn_beneath (P := l.prog) (w := w) (base := base) B T_Forest F_Forest__beneath D_path
  have D_word := dn_word (P := l.prog) (w := w) (base := base) B T_Forest F_Forest__word D_path
  have D_turned := dn_turned (P := l.prog) (w := w) (base := base) B Gc T_Forest F_turned_forest D_init
  have D_mirror := dn_mirror (P := l.prog) (w := w) (base := base) B Gc T_Forest F_mirror_forest D_init
  have D_lpath := dn_lpath (P := l.prog) (w := w) (base := base) B F__law_path
  have D_lword := dn_lword (P := l.prog) (w := w) (base := base) B F__law_word D_lpath
  have D_isint := dn_isint (P := l.prog) (w := w) (base := base) B F__law_is_integer
  have D_same := dn_samep (P := l.prog) (w := w) (base := base) B F__law_same D_isint
  have D_texts := dn_texts (P := l.prog) (w := w) (base := base) B F__law_texts
  have D_samew := dn_samew (P := l.prog) (w := w) (base := base) B F__law_same_word D_isint
  have D_shown := dn_shown (P := l.prog) (w := w) (base := base) B T_Forest F__law_shown D_isint D_same D_texts
  have D_fits := dn_fits (P := l.prog) (w := w) (base := base) B T_Forest F__law_fits D_shown D_same D_samew D_lpath D_lword D_roots D_leaves D_fair D_children D_path D_word D_beneath
  have D_exch := dn_exch (P := l.prog) (w := w) (base := base) B F__law_exchanged
  exact ok_law (P := l.prog) (w := w) (base := base) B Q26 D_tape D_take D_parents D_kinds D_init D_fits D_turned D_mirror D_exch
theorem walk {l : PySem.W.OpenLaw} {q : Program} {loose : List Str} {XP : (Str → Option Value) → Heap → Prop} {YP : World → Heap → Prop} {d : DefRec} {K : Params → PySem.W.Frag} (hn : l.most = some 63) (hdf : d.params.defaults = [])
    (hY : ∀ (w : World) (h : Heap), YP w h → (K w.params).In h)
    (F : ∀ (w : World) (mg : Str → Option Value) (fa : Addr) (h : Heap), (K w.params).In h → h.Ns mainGlobals mg → mg d.name = some (.ref fa) →
      ∃ fd : FuncData, (∀ (s : Shared) (u : Value), BindsTo s fd ⟨[u], []⟩ [("_law_script", u)]) ∧ ∀ base : Heap, (K w.params).In base → base.Ns mainGlobals mg → FnOk l.prog w (K w.params) mg base CX0 7 fa fd ["_law_script"] (sp_law (K w.params))) :
    PySem.W.WalkO q loose XP YP l.row.toRowW d [] (fun f vs => PySem.call f vs) :=
  L2.walk_of (n := 63) (k := 7) (x := "_law_script") (CX := fun _ => CX0) (sp := fun w => sp_law (K w.params)) hn (by decide) hdf ⟨rfl, by decide, by decide⟩ hY F (fun w H a ns hl _ hS => ⟨a, ns, rfl, hS, hl, fun _ => rfl⟩) fun _ _ _ _ _ z => z
end Law
open PySem PySem.W PyProof.Rows
set_option maxRecDepth 100000 in
set_option maxHeartbeats 0 in
theorem PySem.Challenge.cw_fieldrides_k06_paths_and_leaves_holds : PySem.Challenge.rw_fieldrides_k06_paths_and_leaves.Holds := by
  w_on; o_law; k_head; (case hw => w_witness2)
  k_fill
  refine Law.walk (l := PySem.Challenge.rw_fieldrides_k06_paths_and_leaves) rfl rfl (fun w h Y => PySem.W.kIn_of Y) ?F
  case F =>
    intro w mg fa h KX G hmg
    refine' Law.all_mk KX G hmg ?aC_Forest ?pg_Forest ?hd_Forest ?po_Forest ?sa_Forest ?mk_Forest ?kc_Forest ?n_Forest_fields ?n_Forest_parents ?n_Forest_kinds ?a1 ?l1 ?c1 ?k1 ?a2 ?l2 ?c2 ?k2 ?a3 ?l3 ?c3 ?k3 ?a4 ?l4 ?c4 ?k4 ?a5 ?l5 ?c5 ?k5 ?a6 ?l6 ?c6 ?k6 ?a7 ?l7 ?c7 ?k7 ?a8 ?l8 ?c8 ?k8 ?a9 ?l9 ?c9 ?k9 ?a10 ?l10 ?c10 ?k10 ?a11 ?l11 ?c11 ?k11 ?a12 ?l12 ?c12 ?k12 ?a13 ?l13 ?c13 ?k13 ?a14 ?l14 ?c14 ?k14 ?a15 ?l15 ?c15 ?k15 ?a16 ?l16 ?c16 ?k16 ?a17 ?l17 ?c17 ?k17 ?a18 ?l18 ?c18 ?k18 ?a19 ?l19 ?c19 ?k19 ?a20 ?l20 ?c20 ?k20 ?a21 ?l21 ?c21 ?k21 ?a22 ?l22 ?c22 ?k22 ?a23 ?l23 ?c23 ?k23 ?a24 ?l24 ?c24 ?k24 ?a25 ?l25 ?c25 ?k25 ?a26 ?l26 ?c26 ?k26 ?a27 ?i27 ?l27 ?c27 ?k27 ?a28 ?i28 ?l28 ?c28 ?k28 ?a29 ?pget29 ?ptak29 ?prec29 ?l29 ?c29 ?k29 ?a30 ?pget30 ?ptak30 ?prec30 ?l30 ?c30 ?k30 ?a31 ?pget31 ?ptak31 ?prec31 ?l31 ?c31 ?k31 ?a32 ?i32 ?l32 ?c32 ?k32 ?a33 ?i33 ?l33 ?c33 ?k33 ?a34 ?i34 ?l34 ?c34 ?k34 ?a35 ?i35 ?l35 ?c35 ?k35 ?z_abs ?z_bool ?z_enumerate ?z_int ?z_isinstance ?z_len ?z_list ?z_range ?z_str ?z_tuple ?u_MIRRORED ?d_MIRRORED ?y_MIRRORED ?v_MIRRORED0 ?v_MIRRORED1 ?v_MIRRORED2 ?v_MIRRORED3 ?u_MOST_FIELDS ?u_TURNED ?d_TURNED ?y_TURNED ?v_TURNED0 ?v_TURNED1 ?v_TURNED2 ?v_TURNED3
    (case aC_Forest => k_is)
    (case pg_Forest => k_is)
    (case hd_Forest => k_is)
    (case po_Forest => k_is)
    (case sa_Forest => k_is)
    (case mk_Forest => k_is)
    (case kc_Forest => k_is)
    (case n_Forest_fields => k_is)
    (case n_Forest_parents => k_is)
    (case n_Forest_kinds => k_is)
    (case a1 => k_is)
    (case l1 => k_is)
    (case c1 => k_is)
    (case k1 => k_is)
    (case a2 => k_is)
    (case l2 => k_is)
    (case c2 => k_is)
    (case k2 => k_is)
    (case a3 => k_is)
    (case l3 => k_is)
    (case c3 => k_is)
    (case k3 => k_is)
    (case a4 => k_is)
    (case l4 => k_is)
    (case c4 => k_is)
    (case k4 => k_is)
    (case a5 => k_is)
    (case l5 => k_is)
    (case c5 => k_is)
    (case k5 => k_is)
    (case a6 => k_is)
    (case l6 => k_is)
    (case c6 => k_is)
    (case k6 => k_is)
    (case a7 => k_is)
    (case l7 => k_is)
    (case c7 => k_is)
    (case k7 => k_is)
    (case a8 => k_is)
    (case l8 => k_is)
    (case c8 => k_is)
    (case k8 => k_is)
    (case a9 => k_is)
    (case l9 => k_is)
    (case c9 => k_is)
    (case k9 => k_is)
    (case a10 => k_is)
    (case l10 => k_is)
    (case c10 => k_is)
    (case k10 => k_is)
    (case a11 => k_is)
    (case l11 => k_is)
    (case c11 => k_is)
    (case k11 => k_is)
    (case a12 => k_is)
    (case l12 => k_is)
    (case c12 => k_is)
    (case k12 => k_is)
    (case a13 => k_is)
    (case l13 => k_is)
    (case c13 => k_is)
    (case k13 => k_is)
    (case a14 => k_is)
    (case l14 => k_is)
    (case c14 => k_is)
    (case k14 => k_is)
    (case a15 => k_is)
    (case l15 => k_is)
    (case c15 => k_is)
    (case k15 => k_is)
    (case a16 => k_is)
    (case l16 => k_is)
    (case c16 => k_is)
    (case k16 => k_is)
    (case a17 => k_is)
    (case l17 => k_is)
    (case c17 => k_is)
    (case k17 => k_is)
    (case a18 => k_is)
    (case l18 => k_is)
    (case c18 => k_is)
    (case k18 => k_is)
    (case a19 => k_is)
    (case l19 => k_is)
    (case c19 => k_is)
    (case k19 => k_is)
    (case a20 => k_is)
    (case l20 => k_is)
    (case c20 => k_is)
    (case k20 => k_is)
    (case a21 => k_is)
    (case l21 => k_is)
    (case c21 => k_is)
    (case k21 => k_is)
    (case a22 => k_is)
    (case l22 => k_is)
    (case c22 => k_is)
    (case k22 => k_is)
    (case a23 => k_is)
    (case l23 => k_is)
    (case c23 => k_is)
    (case k23 => k_is)
    (case a24 => k_is)
    (case l24 => k_is)
    (case c24 => k_is)
    (case k24 => k_is)
    (case a25 => k_is)
    (case l25 => k_is)
    (case c25 => k_is)
    (case k25 => k_is)
    (case a26 => k_is)
    (case l26 => k_is)
    (case c26 => k_is)
    (case k26 => k_is)
    (case a27 => k_is)
    (case i27 => k_is)
    (case l27 => k_is)
    (case c27 => k_is)
    (case k27 => k_is)
    (case a28 => k_is)
    (case i28 => k_is)
    (case l28 => k_is)
    (case c28 => k_is)
    (case k28 => k_is)
    (case a29 => k_is)
    (case pget29 => k_is)
    (case ptak29 => k_is)
    (case prec29 => k_is)
    (case l29 => k_is)
    (case c29 => k_is)
    (case k29 => k_is)
    (case a30 => k_is)
    (case pget30 => k_is)
    (case ptak30 => k_is)
    (case prec30 => k_is)
    (case l30 => k_is)
    (case c30 => k_is)
    (case k30 => k_is)
    (case a31 => k_is)
    (case pget31 => k_is)
    (case ptak31 => k_is)
    (case prec31 => k_is)
    (case l31 => k_is)
    (case c31 => k_is)
    (case k31 => k_is)
    (case a32 => k_is)
    (case i32 => k_is)
    (case l32 => k_is)
    (case c32 => k_is)
    (case k32 => k_is)
    (case a33 => k_is)
    (case i33 => k_is)
    (case l33 => k_is)
    (case c33 => k_is)
    (case k33 => k_is)
    (case a34 => k_is)
    (case i34 => k_is)
    (case l34 => k_is)
    (case c34 => k_is)
    (case k34 => k_is)
    (case a35 => k_is)
    (case i35 => k_is)
    (case l35 => k_is)
    (case c35 => k_is)
    (case k35 => k_is)
    (case z_abs => k_is)
    (case z_bool => k_is)
    (case z_enumerate => k_is)
    (case z_int => k_is)
    (case z_isinstance => k_is)
    (case z_len => k_is)
    (case z_list => k_is)
    (case z_range => k_is)
    (case z_str => k_is)
    (case z_tuple => k_is)
    (case u_MIRRORED => k_is)
    (case d_MIRRORED => k_is)
    (case y_MIRRORED => exact ⟨⟨_, _, rfl, rfl⟩, ⟨_, _, rfl, rfl⟩, ⟨_, _, rfl, rfl⟩, ⟨_, _, rfl, rfl⟩, trivial⟩)
    (case v_MIRRORED0 => k_is)
    (case v_MIRRORED1 => k_is)
    (case v_MIRRORED2 => k_is)
    (case v_MIRRORED3 => k_is)
    (case u_MOST_FIELDS => k_is)
    (case u_TURNED => k_is)
    (case d_TURNED => k_is)
    (case y_TURNED => exact ⟨⟨_, _, rfl, rfl⟩, ⟨_, _, rfl, rfl⟩, ⟨_, _, rfl, rfl⟩, ⟨_, _, rfl, rfl⟩, trivial⟩)
    (case v_TURNED0 => k_is)
    (case v_TURNED1 => k_is)
    (case v_TURNED2 => k_is)
    (case v_TURNED3 => k_is)

