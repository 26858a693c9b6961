import PyProof.Rows.All
import Wide.All
import OpenK.AllK
import Wide.FinOn
import HandS.ForMost
import HandS.ForExc
import HandS.IsInst
import HandS.Strs
import HandS.SetFor
import HandS.SortInts
import HandS.Wide
import HandS.TupAny
import HandS.More
import HandS.Property
import HandS.Walk
import KE.GoesEnum
import HandS.Conv
import HandS.ExcInit
import HandS.ExcField
import HandS.ExcIs
import HandS.ClsMeth
import HandS.FStr
import KE.KExcIs
import KE.KCallOwn
import HandS.Zip
import HandS.TryMany
import HandS.Flow
import HandS.Deep
import HandS.WordsDict
import PySem.Challenge.RW_fieldrides_k07_merge_by_a_forest
set_option Elab.async false
set_option linter.all false
set_option maxRecDepth 100000
/-! My base: defs by name, heaps but for one list, sets of ints from a list. -/
namespace My
open PySem PySem.Spec PyProof.Rows L2

/-! ### a def that stands under a name of the module -/
structure Df (K : PySem.W.Frag) (mg : Str → Option Value) (x : Str) (st : Stmt) (ps : List Str) : Prop where
  ex : ∃ (f : Addr) (fd : FuncData), Fun K x x st f fd ∧ Binds K fd ps [] ∧ mg x = some (.ref f)
structure Dn (P : Program) (w : World) (K : PySem.W.Frag) (mg : Str → Option Value) (base : Heap) (k : Nat) (x : Str) (sp : Sp) : Prop where
  ex : ∃ (f : Addr) (fd : FuncData) (ps : List Str), FnOk P w K mg base CX0 k f fd ps sp ∧ mg x = some (.ref f) ∧ PySem.W.keepIn K (.ref f) = true ∧ Binds K fd ps []
section
variable {P : Program} {w : World} {K : PySem.W.Frag} {mg : Str → Option Value} {base : Heap}
theorem Df.ok {x : Str} {st : Stmt} {N ps : List Str} {k : Nat} {sp : Sp} (F : Df K mg x st ps) (S : FnScope N ps (defScope st)) (len : ∀ vs H Q E, sp vs H Q E → vs.length = ps.length)
    (body : ∀ (f : Addr) (cdv : Value) (A : Around) (outer : List Env) (s : Shared) (H : Hp) (vs : List V) (Q : VK) (E : XK),
      Room k (A.deeper (envOfC x (defScope st) s.heap.objs.size f cdv)) → sp vs H Q E →
      ∃ t, PSs (cxOf CX0 P w K mg base N x (defScope st) f cdv A outer s H E).nox (defBody st) t ∧
        t { nx := fun _ H' => Q .non H', rt := Q } (start N vs) H) : Dn P w K mg base (k + 1) x sp := by
  obtain ⟨f, fd, F, b, m⟩ := F.ex
  exact ⟨f, fd, ps, F.ok S len (body f), m, F.kp, b⟩
theorem Dn.mono {x : Str} {j k : Nat} {sp : Sp} (D : Dn P w K mg base j x sp) (h : j ≤ k) : Dn P w K mg base k x sp := by
  obtain ⟨f, fd, ps, F, m, q, b⟩ := D.ex
  exact ⟨f, fd, ps, F.mono h, m, q, b⟩
theorem Dn.imp {x : Str} {k : Nat} {sp sp' : Sp} (D : Dn P w K mg base k x sp) (h : ∀ vs H Q E, sp' vs H Q E → sp vs H Q E) : Dn P w K mg base k x sp' := by
  obtain ⟨f, fd, ps, F, m, q, b⟩ := D.ex
  exact ⟨f, fd, ps, F.imp h, m, q, b⟩
/-- nothing is promised of a call that can't be -/
theorem Df.none {x : Str} {st : Stmt} {ps : List Str} {sp : Sp} (F : Df K mg x st ps) (no : ∀ vs H Q E, ¬ sp vs H Q E) (k : Nat) : Dn P w K mg base k x sp := by
  obtain ⟨f, fd, F, b, m⟩ := F.ex
  exact ⟨f, fd, ps, ⟨fun vs H Q E h => absurd h (no vs H Q E), fun A outer s H args us vs Q E _ _ _ _ h => absurd h (no vs H Q E)⟩, m, F.kp, b⟩
end
section
variable {X : Cx} {k : Nat} {x : Str} {sp : Sp} {e : Expr} {es : List Expr} {t : TA} {p pos : Pos}
theorem pe_callD (D : Dn X.prog X.w X.K X.mg X.base k x sp) (hr : Room k X.A) (hg : Gl X x) (ha : PA X (e :: es) t) (hdb : (x == ("__debug__" : Str)) = false := by decide)
    (he : starEach (e :: es) X.env = (false, eval e X.env) :: starEach es X.env := by rfl) (hpl : (backTo pos (starEach es X.env)).any (·.1) = false := by rfl) :
    PE X (.Call (.Name x p) (e :: es) [] pos) (tCall sp [] E0 t) := by
  obtain ⟨f, fd, ps, F, m, q, b⟩ := D.ex
  exact pe_call F hr hg m q b .nil pass0 ha hdb he hpl
theorem pe_callD0 (D : Dn X.prog X.w X.K X.mg X.base k x sp) (hr : Room k X.A) (hg : Gl X x) (hdb : (x == ("__debug__" : Str)) = false := by decide) :
    PE X (.Call (.Name x p) [] [] pos) (tCall sp [] E0 tNil) := by
  obtain ⟨f, fd, ps, F, m, q, b⟩ := D.ex
  exact pe_call0 F hr hg m q b .nil pass0 hdb
end

/-! ### heaps -/
theorem same_new {H : Hp} {p : Addr} (h : H p = Option.none) (o : HO) : Same H (upd H p o) := fun b u q => by rw [upd_ne (ne_of_none q h)]; exact q
/-- all but what stands at t is as it was -/
def But (t : Addr) (H H' : Hp) : Prop := ∀ b o, b ≠ t → H b = some o → H' b = some o
theorem But.refl (t : Addr) (H : Hp) : But t H H := fun _ _ _ h => h
theorem But.trans {t : Addr} {H H1 H2 : Hp} (a : But t H H1) (b : But t H1 H2) : But t H H2 := fun c o n h => b c o n (a c o n h)
theorem But.of {t : Addr} {H H' : Hp} (h : Same H H') : But t H H' := fun b o _ q => h b o q
theorem But.upd {t : Addr} {H : Hp} (o : HO) : But t H (upd H t o) := fun b u n q => by rw [upd_ne n]; exact q
theorem But.new {t p : Addr} {H : Hp} (h : H p = Option.none) (o : HO) : But t H (L2.upd H p o) := .of (same_new h o)
theorem But.tup {t p : Addr} {H H' : Hp} {l xs : List V} (b : But t H H') (ht : H t = some (.lst l)) (h : H p = some (.tup xs)) : H' p = some (.tup xs) :=
  b p _ (ne_of h ht (by intro z; cases z)) h
/-- from the heap ahead of the list at t -/
theorem But.same {t : Addr} {H0 H' : Hp} {o : HO} (n : H0 t = Option.none) (b : But t (L2.upd H0 t o) H') : Same H0 H' := fun c u q =>
  b c u (ne_of_none q n) (by rw [upd_ne (ne_of_none q n)]; exact q)
theorem _root_.L2.Same.seqT {K : PySem.W.Frag} {H H' : Hp} {a : Addr} {xs : List V} (e : Same H H') (h : SqT K H a xs) : SqT K H' a xs := by
  rcases h with (h | ⟨o, h⟩) | h
  · exact .inl (.inl (e _ _ h))
  · exact .inl (.inr ⟨o, e _ _ h⟩)
  · exact .inr h

/-! ### numbers in a list -/
theorem nodup_small : ∀ (n : Nat) (ds : List Int), ds.Nodup → (∀ z ∈ ds, 0 ≤ z ∧ z < (n : Int)) → ds.length ≤ n
  | 0, [], _, _ => Nat.le_refl _
  | 0, d :: ds, _, h => by have := h d (List.mem_cons_self ..); omega
  | n + 1, ds, nd, h => by
    have q := nodup_small n (ds.erase (n : Int)) (nd.erase _) fun z hz => by
      have h1 := h z (List.mem_of_mem_erase hz)
      have h2 : z ≠ (n : Int) := fun e => by
        subst e
        exact (nd.not_mem_erase hz)
      omega
    have l := List.length_erase_le (a := (n : Int)) (l := ds)
    by_cases m : (n : Int) ∈ ds
    · rw [List.length_erase_of_mem m] at q
      omega
    · rw [List.erase_of_not_mem m] at q
      omega

/-! ### the set of a list of ints -/
section
variable {P : Program} {w : World} {A : Around} {E : Value → Shared → Prop} {s : Shared}
set_option maxHeartbeats 3200000 in
theorem set_of_ints {l : Addr} {xs : Array Value} (ns : List Int) {Q : Value → Shared → Prop} (hh : A.handled = none) (hl : s.heap.IsList l xs) (hit : IntsAre xs.toList ns) (hb : ns.length + 1 < scanBound)
    (q : ∀ (h' : Heap) (tk c : Nat), SetR w h' s.heap.objs.size (fun j => decide (j ∈ ns)) c → (∀ b o, s.heap.get? b = some o → h'.get? b = some o) → Q (.ref s.heap.objs.size) { s with heap := h', toks := tk }) :
    wpAny (model P w) A (call (.type "set") [.ref l]) Q E s := by
  have size_eq : xs.size = ns.length := by
    have z := IntsAre.length hit
    rwa [Array.length_toList] at z
  let S0 : Obj := { cls := .type "set", dict := none, data := .set #[] 0 (.fresh 0 0 (!w.params.followText "set-order")) }
  obtain ⟨c1, t1, m1⟩ := F.called_set.mro
  have m2 := F.called_set.made; have m3 := F.called_set.sub
  refine wpAny_call (codeAny_of_tree ?_)
  change wpAny _ _ (callAny (.type "set") _) _ _ _
  refine wpAny_pure ⟨Code.quiet_builtin _ (by decide +kernel), ?_⟩
  refine codeAny_builtin F.entry_type_call ?_
  rw [Around.under_plain (weight_type_call_type "set" [Value.ref l] []) rfl]
  have m4 := F.called_set.notType; have m5 := F.called_set.canCreate; have m6 := F.typeCall_set_1 (.ref l)
  repeat (any_goals (first | wp_step | assumption))
  refine codeAny_mono (code_set_led1 (.ref l) (E := E) (Q₁ := fun v z => v = .ref s.heap.objs.size ∧ z = { s with heap := s.heap.push S0 }) ⟨rfl, rfl⟩) fun r z hr => ?_
  match r, hr with
  | .error e, hr => exact hr
  | .ok .next, hr => exact hr.elim
  | .ok .brk, hr => exact hr.elim
  | .ok .cont, hr => exact hr.elim
  | .ok (.ret v), hr =>
    obtain ⟨rfl, rfl⟩ := hr
    have at0 : (s.heap.push S0).get? s.heap.objs.size = some S0 := Heap.get?_push_size _ rfl
    have ty0 : Shared.TypeIs { s with heap := s.heap.push S0 } (.ref s.heap.objs.size) "set" := ⟨_, at0, rfl⟩
    have i1 := F.called_set.init.lookup; have i2 := F.called_set.init.bind (.ref s.heap.objs.size)
    repeat (any_goals (first | wp_step | assumption))
    refine codeAny_mono (codeAny_call_builtin (R := wants (fun r z => r = .none ∧ ∃ h' tk c, z = { s with heap := h', toks := tk } ∧ SetR w h' s.heap.objs.size (fun j => decide (j ∈ ns)) c ∧ (∀ b o, s.heap.get? b = some o → h'.get? b = some o)) E)
      F.called_set.init.plain F.entry_set_init (check_set_init_1 ty0 ?_)) fun r2 z2 hr2 => ?_
    · obtain ⟨⟨oc, od, oda, osl⟩, g0, g1, nn, g2⟩ := hl
      simp only at g1 g2
      subst g1; subst g2
      have old : (s.heap.push S0).get? l = some { cls := .type "list", dict := od, data := .seq xs nn, slots := osl } := Heap.get?_push_of_some _ g0
      have n1 := F.sub_list_set; have n2 := F.sub_list_frozenset
      have n3 : (Value.type "list" == Value.type "dict") = false := by decide
      have li : (s.heap.push S0).IsList l xs := ⟨_, old, rfl, nn, rfl⟩
      unfold Builtin.«set.__init__» noKeywords Builtin.Frozenset.updateFrom
      generalize hPI : pyIter = PI
      wp_walk
      subst hPI
      refine wpAny_pyIter_list li (wpAny_bind (wpAny_runValue ?_))
      have l0 : l < s.heap.objs.size := Heap.lt_size g0
      have hd0 : A.in1.in1.in1.handled = none := by simp [hh]
      have sz1 : (s.heap.push S0).objs.size = s.heap.objs.size + 1 := Heap.size_push ..
      have l1 : l ≠ (s.heap.push S0).objs.size := by rw [sz1]; exact Nat.ne_of_lt (Nat.lt_succ_of_lt l0)
      have s1 : s.heap.objs.size ∉ [(s.heap.push S0).objs.size, l] := by
        rw [sz1]
        simp only [List.mem_cons, List.not_mem_nil, or_false, not_or]
        exact ⟨Nat.ne_of_lt (Nat.lt_succ_self _), Nat.ne_of_gt l0⟩
      have items : ∀ (i : Nat) (v : Value), xs[i]? = some v → ∃ k t, ns[i]? = some k ∧ v = .int k t := fun i v hv => by
        have lt : i < ns.length := by rw [← size_eq]; exact (Array.getElem?_eq_some_iff.mp hv).1
        obtain ⟨t, e⟩ := PyProof.Rows.IntsAre.int_at hit i v (by rw [Array.getElem?_toList]; exact hv)
        exact ⟨ns[i], t, List.getElem?_eq_getElem lt, by rw [e, List.getD_eq_getElem?_getD, List.getElem?_eq_getElem lt]; rfl⟩
      refine set_update_ints ((Walks.list hd0 _ l l1 xs).toS) s.heap.objs.size s1 ns size_eq hb items (xs.size - 0) 0 _ (by omega) (Nat.zero_le _) ⟨⟨_, Heap.get?_push_size _ rfl, rfl, rfl⟩, (li.push _)⟩ ?first ?last
      case first => exact ⟨0, Nat.le_refl 0, setR_new_at (Heap.get?_push_of_some _ at0)⟩
      case last =>
        intro z c hm _ hz
        obtain ⟨h', g2, d', tk', os'⟩ := z
        obtain rfl : g2 = s.gens := hm.gens
        obtain rfl : d' = s.drawn := hm.drawn
        obtain rfl : os' = s.os := hm.os
        show wpAny _ _ _ _ _ _
        refine wpAny_pure (?_ : wpAny _ _ (ret Value.none) _ _ _)
        refine wpAny_pure ⟨rfl, h', tk', c, rfl, hz, fun b o e => ?_⟩
        have b0 := Heap.lt_size e
        refine hm.heap b o ?_ (Heap.get?_push_of_some _ (Heap.get?_push_of_some _ e))
        rw [sz1]
        simp only [List.mem_cons, List.not_mem_nil, or_false, not_or]
        exact ⟨Nat.ne_of_lt b0, Nat.ne_of_lt (Nat.lt_succ_of_lt b0)⟩
    · match r2, hr2 with
      | .error e, hr2 => exact hr2
      | .ok .next, hr2 => exact hr2.elim
      | .ok .brk, hr2 => exact hr2.elim
      | .ok .cont, hr2 => exact hr2.elim
      | .ok (.ret v2), hr2 =>
        obtain ⟨rfl, h', tk, c, rfl, hz, hk⟩ := hr2
        repeat (any_goals (first | wp_step | assumption))
        exact q _ _ _ hz hk
end
theorem SetR.list {w : World} {h : Heap} {a : Addr} {S : Int → Bool} {n : Nat} (R : SetR w h a S n) : ∃ ds : List Int, ds.Nodup ∧ (∀ z, z ∈ ds ↔ S z = true) ∧ ds.length = n := by
  obtain ⟨o, es, ep, t, _, _, _, _, nd, m, _, _, e, _⟩ := R
  exact ⟨es.toList.map keyOf, nd, fun z => (m z).symm, by rw [List.length_map, Array.length_toList]; exact e⟩
/-- set(xs), xs a list of ints -/
def rSetI (K : PySem.W.Frag) (w : World) : List V → Hp → VK → Prop := fun vs H Q => ∃ (a : Addr) (ns : List Int), vs = [.ref a] ∧ SqL K H a (ns.map V.int) ∧ ns.length + 1 < scanBound ∧
  ∀ (p : Addr) (ds : List Int), ds.Nodup → (∀ z, z ∈ ds ↔ z ∈ ns) → H p = none → Q (.ref p) (upd H p (SetO w p (fun j => decide (j ∈ ns)) ds.length))
theorem call_setI {X : Cx} (hc : X.calm = true) : CallR X (.type "set") (rSetI X.K X.w) := by
  intro pins s σ H vs us Q I r h
  obtain ⟨a, ns, rfl, hS, hb, q⟩ := h
  obtain ⟨its, rv, pl, hz⟩ := I.list hS
  rw [Vals.ref1 r]
  refine set_of_ints (xs := its.toArray) ns (I.ok.hd hc) pl.isList (Vals.ints rv) hb fun h' tk c R k => ?_
  obtain ⟨ds, nd, m, e⟩ := SetR.list R
  have hn : H s.heap.objs.size = none := I.hok.fresh (Nat.le_refl _)
  refine ⟨.ref s.heap.objs.size, upd H s.heap.objs.size (SetO X.w s.heap.objs.size (fun j => decide (j ∈ ns)) c), I.laid (t' := tk) k (Nat.le_refl _) (setO_new R), rfl, ?_⟩
  have q' := q s.heap.objs.size ds nd (fun z => by rw [m z]; simp) hn
  rwa [e] at q'
end My

set_option Elab.async false
set_option linter.all false
set_option maxRecDepth 100000
/-! My trees: nested tuples (field, less, same, more) with texts at their ends; how they lie in a heap. -/
namespace My
open PySem PySem.Spec PyProof.Rows L2

/-! ### answers of built-ins -/
section
variable {K : PySem.W.Frag}
theorem k_ss : PySem.W.kitOne K (.type "str") (.type "str") = some true := kit_ty (by decide +kernel)
theorem k_ts : PySem.W.kitOne K (.type "tuple") (.type "str") = some false := kit_ty (by decide +kernel)
theorem k_tt : PySem.W.kitOne K (.type "tuple") (.type "tuple") = some true := kit_ty (by decide +kernel)
theorem k_st : PySem.W.kitOne K (.type "str") (.type "tuple") = some false := kit_ty (by decide +kernel)
theorem k_ii : PySem.W.kitOne K (.type "int") (.type "int") = some true := kit_ty (by decide +kernel)
theorem k_ib : PySem.W.kitOne K (.type "int") (.type "bool") = some false := kit_ty (by decide +kernel)
theorem k_ll : PySem.W.kitOne K (.type "list") (.type "list") = some true := kit_ty (by decide +kernel)
theorem k_bb : PySem.W.kitOne K (.type "bool") (.type "bool") = some true := kit_ty (by decide +kernel)
end
theorem small {n : Nat} (h : n ≤ 100000) : n ≤ sizeLine := by rw [sizeLine_eq]; omega
theorem smallLt {n : Nat} (h : n ≤ 100000) : n < sizeLine := by rw [sizeLine_eq]; omega
theorem map_ne {α β : Type} {f : α → β} {l : List α} (h : l ≠ []) : l.map f ≠ [] := fun e => h (List.map_eq_nil_iff.mp e)

/-! ### cutting a reading -/
/-- a test with what holds behind it -/
theorem if_split {tc : TT} {t u : TS} {D : Ends} {σ : L2.St} {H : Hp} (C : Bool → Hp → Prop) (h : ∀ Q : Bool → Hp → Prop, (∀ b H1, C b H1 → Q b H1) → tc σ H Q)
    (ht : ∀ H1, C true H1 → t D σ H1) (hf : ∀ H1, C false H1 → u D σ H1) : tIfS tc t u D σ H := h _ fun b H1 c => by
  cases b
  · exact iteF (hf H1 c)
  · exact iteT (ht H1 c)
/-- a statement that goes on, with what holds behind it -/
theorem st_split {t u : TS} {D : Ends} {σ : L2.St} {H : Hp} (C : L2.St → Hp → Prop) (h : ∀ D' : Ends, (∀ σ' H', C σ' H' → D'.nx σ' H') → t D' σ H) (q : ∀ σ' H', C σ' H' → u D σ' H') : tSeq t u D σ H := h _ q

theorem st_splitR {t u : TS} {D : Ends} {σ : L2.St} {H : Hp} (C : L2.St → Hp → Prop) (h : ∀ D' : Ends, D'.rt = D.rt → (∀ σ' H', C σ' H' → D'.nx σ' H') → t D' σ H) (q : ∀ σ' H', C σ' H' → u D σ' H') : tSeq t u D σ H := h _ rfl q

/-! ### the law's tape: two numbers, not below 0 -/
def Tape (H : Hp) (t : Addr) : Prop := ∃ c k : Int, H t = some (.lst [.int c, .int k]) ∧ 0 ≤ c ∧ 0 ≤ k
theorem Tape.lst {H : Hp} {t : Addr} (h : Tape H t) : ∃ l, H t = some (.lst l) := by
  obtain ⟨c, k, h, _⟩ := h
  exact ⟨_, h⟩
theorem Tape.same {H H' : Hp} {t : Addr} (h : Tape H t) (e : Same H H') : Tape H' t := by
  obtain ⟨c, k, h, q⟩ := h
  exact ⟨c, k, e _ _ h, q⟩
theorem Tape.ne {H : Hp} {t p : Addr} (h : Tape H t) (n : H p = none) : p ≠ t := by
  obtain ⟨l, h⟩ := h.lst
  exact fun e => ne_of_none h n e.symm
theorem Tape.but {H H' : Hp} {t u : Addr} (h : Tape H t) (b : But u H H') (n : t ≠ u) : Tape H' t := by
  obtain ⟨c, k, h, q⟩ := h
  exact ⟨c, k, b _ _ n h, q⟩
theorem Tape.upd {H : Hp} {t D : Addr} {o : HO} (h : Tape H t) (n : D ≠ t) : Tape (L2.upd H D o) t := by
  obtain ⟨c, k, h, q⟩ := h
  exact ⟨c, k, by rw [upd_ne n.symm]; exact h, q⟩
/-- a store to what came later -/
theorem But.later {t D : Addr} {H H' : Hp} {o : HO} (b : But t H H') (n : H D = none) : But t H (L2.upd H' D o) := fun c u ne q => by rw [upd_ne (ne_of_none q n)]; exact b c u ne q
theorem _root_.L2.Same.later {D : Addr} {H H' : Hp} {o : HO} (b : Same H H') (n : H D = none) : Same H (L2.upd H' D o) := fun c u q => by rw [upd_ne (ne_of_none q n)]; exact b c u q
theorem But.free {t D : Addr} {H H' : Hp} (b : But t H H') (n : H' D = none) (ne : D ≠ t) : H D = none := by
  cases q : H D with
  | none => rfl
  | some o => rw [b D o ne q] at n; cases n
/-! ### rules within a comprehension: the written part said outright -/
section
variable {X : Cx} {K : PySem.W.Frag}
theorem ix_listK (h : X.K = K) : IxR X (rIxL K) := h ▸ ix_list
theorem ix_tupK (h : X.K = K) : IxR X (rIxT K) := h ▸ ix_tup
theorem ix_seqK (h : X.K = K) : IxR X (rIx K) := h ▸ ix_seq
theorem isiK (h : X.K = K) : CallR X (.builtin "isinstance") (rIsi K) := h ▸ call_isi
def rLen (K : PySem.W.Frag) : List V → Hp → VK → Prop := fun xs H Q => ∃ p ys, xs = [.ref p] ∧ (SqL K H p ys ∨ SqT K H p ys) ∧ Q (.int ys.length) H
theorem lenK (h : X.K = K) : CallR X (.builtin "len") (rLen K) := h ▸ call_len_seq
def rListOf (K : PySem.W.Frag) : List V → Hp → VK → Prop := fun xs H Q => ∃ p ys, xs = [.ref p] ∧ (SqL K H p ys ∨ SqT K H p ys) ∧ ∀ l, H l = none → Q (.ref l) (upd H l (.lst ys))
theorem listOfK (h : X.K = K) : CallR X (.type "list") (rListOf K) := h ▸ call_list_of
def rTupleOf (K : PySem.W.Frag) : List V → Hp → VK → Prop := fun xs H Q => ∃ p ys, xs = [.ref p] ∧ ((SqL K H p ys ∧ ∀ l, H l = none → Q (.ref l) (upd H l (.tup ys))) ∨ (SqT K H p ys ∧ Q (.ref p) H))
theorem tupleOfK (h : X.K = K) : CallR X (.type "tuple") (rTupleOf K) := h ▸ call_tuple_of
theorem in_seqK (h : X.K = K) : OpR X (compareOp .In) (rIn K false) := h ▸ op_in_seq
theorem notIn_seqK (h : X.K = K) : OpR X (compareOp .NotIn) (rIn K true) := h ▸ op_notIn_seq
theorem sl_listK (h : X.K = K) : SlR X (rSlL K) := h ▸ sl_list
theorem sl_tupAK (h : X.K = K) : SlR X (rSlA K) := h ▸ sl_tupA
theorem catAK (h : X.K = K) : OpR X (binaryOp .Add) (rCatA K) := h ▸ op_catA
theorem eqDK (hu : X.A.units + 64 < cLine) (h : X.K = K) : OpR X (compareOp .Eq) (rEqD K) := h ▸ op_eqD hu
theorem neDK (hu : X.A.units + 64 < cLine) (h : X.K = K) : OpR X (compareOp .NotEq) (rNeD K) := h ▸ op_neD hu
end
def spTake : Sp := fun vs H Q _ => ∃ (t : Addr) (n : Int), vs = [.ref t, .int n] ∧ Tape H t ∧ 0 < n ∧ n < 1073741824 ∧
  ∀ (H' : Hp) (r : Int), But t H H' → Tape H' t → 0 ≤ r → r < n → Q (.int r) H'
def spTape (K : PySem.W.Frag) : Sp := fun vs H Q _ => ∃ (a : Addr) (ns : List Int) (k : Int), vs = [.ref a, .int k] ∧ SqL K H a (ns.map V.int) ∧ 0 ≤ k ∧
  ∀ (t : Addr) (c : Int), H t = none → 0 ≤ c → Q (.ref t) (upd H t (.lst [.int c, .int 0]))
theorem tape_new {H : Hp} {t : Addr} {c : Int} (h : 0 ≤ c) : Tape (upd H t (.lst [.int c, .int 0])) t := ⟨c, 0, upd_same, h, Int.le_refl 0⟩

/-! ### trees -/
inductive Tr where
  | leaf (s : Str)
  | ask (f : Int) (a b c : Tr)
  deriving DecidableEq
namespace Tr
def depth : Tr → Nat
  | leaf _ => 0
  | ask _ a b c => max a.depth (max b.depth c.depth) + 1
def asks : Tr → Nat
  | leaf _ => 0
  | ask _ a b c => a.asks + b.asks + c.asks + 1
def ends : Tr → List Str
  | leaf s => [s]
  | ask _ a b c => a.ends ++ b.ends ++ c.ends
def fields : Tr → List Int
  | leaf _ => []
  | ask f a b c => [f] ++ a.fields ++ b.fields ++ c.fields
def pick (x : Int) (a b c : Tr) : Tr := if x = -1 then a else if x = 0 then b else c
/-- the sign of a field in a row -/
def sgn (rs : List Int) (f : Int) : Int := rs.getD f.toNat 0
def follow (rs : List Int) : Tr → Str
  | leaf s => s
  | ask f a b c => if sgn rs f = -1 then a.follow rs else if sgn rs f = 0 then b.follow rs else c.follow rs
/-- every asked field lies in 0 .. n-1 -/
def Below (n : Int) : Tr → Prop
  | leaf _ => True
  | ask f a b c => 0 ≤ f ∧ f < n ∧ a.Below n ∧ b.Below n ∧ c.Below n
/-- every end is one of the two words -/
def Two : Tr → Prop
  | leaf s => s = "older" ∨ s = "newer"
  | ask _ a b c => a.Two ∧ b.Two ∧ c.Two
theorem ends_len : ∀ t : Tr, t.ends.length = 2 * t.asks + 1
  | leaf _ => rfl
  | ask f a b c => by
    have h1 := ends_len a; have h2 := ends_len b; have h3 := ends_len c
    simp only [ends, asks, List.length_append]; omega
theorem fields_len : ∀ t : Tr, t.fields.length = t.asks
  | leaf _ => rfl
  | ask f a b c => by
    have h1 := fields_len a; have h2 := fields_len b; have h3 := fields_len c
    simp only [fields, asks, List.length_append, List.length_cons, List.length_nil]; omega
theorem ends_ne (t : Tr) : t.ends ≠ [] := fun e => by
  have h := ends_len t
  rw [e, List.length_nil] at h
  omega
theorem depth_le : ∀ t : Tr, t.depth ≤ t.asks
  | leaf _ => Nat.le_refl _
  | ask f a b c => by
    have h1 := depth_le a; have h2 := depth_le b; have h3 := depth_le c
    simp only [depth, asks]; omega
theorem below_mem : ∀ {t : Tr} {n : Int}, t.Below n → ∀ z ∈ t.fields, 0 ≤ z ∧ z < n
  | leaf _, _, _, z, h => by cases h
  | ask f a b c, n, ⟨h1, h2, h3, h4, h5⟩, z, h => by
    simp only [fields, List.mem_append, List.mem_singleton] at h
    rcases h with ((h | h) | h) | h
    · subst h; exact ⟨h1, h2⟩
    · exact below_mem h3 z h
    · exact below_mem h4 z h
    · exact below_mem h5 z h
theorem Below.mono : ∀ {t : Tr} {n m : Int}, t.Below n → n ≤ m → t.Below m
  | leaf _, _, _, _, _ => trivial
  | ask f a b c, n, m, ⟨h1, h2, h3, h4, h5⟩, h => ⟨h1, by omega, h3.mono h, h4.mono h, h5.mono h⟩
def clash (w : Str) : Tr → Tr
  | leaf s => leaf (if s = w then "clash" else s)
  | ask f a b c => ask f (a.clash w) (b.clash w) (c.clash w)
theorem clash_depth (w : Str) : ∀ t : Tr, (t.clash w).depth = t.depth
  | leaf s => rfl
  | ask f a b c => by simp only [clash, depth, clash_depth w a, clash_depth w b, clash_depth w c]
theorem clash_asks (w : Str) : ∀ t : Tr, (t.clash w).asks = t.asks
  | leaf s => rfl
  | ask f a b c => by simp only [clash, asks, clash_asks w a, clash_asks w b, clash_asks w c]
theorem clash_below (w : Str) {n : Int} : ∀ {t : Tr}, t.Below n → (t.clash w).Below n
  | leaf s, _ => trivial
  | ask f a b c, ⟨h1, h2, h3, h4, h5⟩ => ⟨h1, h2, clash_below w h3, clash_below w h4, clash_below w h5⟩
/-- of a list of trees -/
def endsL : List Tr → List Str
  | [] => []
  | t :: ts => t.ends ++ endsL ts
def fieldsL : List Tr → List Int
  | [] => []
  | t :: ts => t.fields ++ fieldsL ts
def nodesL : List Tr → Nat
  | [] => 0
  | t :: ts => 3 * t.asks + 1 + nodesL ts
theorem fieldsL_app : ∀ a b : List Tr, fieldsL (a ++ b) = fieldsL a ++ fieldsL b
  | [], b => rfl
  | t :: a, b => by rw [List.cons_append, fieldsL, fieldsL, fieldsL_app a b, List.append_assoc]
theorem nodesL_app : ∀ a b : List Tr, nodesL (a ++ b) = nodesL a + nodesL b
  | [], b => by rw [List.nil_append, nodesL, Nat.zero_add]
  | t :: a, b => by rw [List.cons_append, nodesL, nodesL, nodesL_app a b]; omega
theorem nodesL_len : ∀ a : List Tr, a.length ≤ nodesL a
  | [] => Nat.le_refl _
  | t :: a => by have := nodesL_len a; simp only [List.length_cons, nodesL]; omega
end Tr
theorem asc_nodup {l : List Int} (h : l.Pairwise (· < ·)) : l.Nodup := h.imp fun h => by omega
/-- ascending lists with the same members are one -/
theorem asc_same : ∀ {a b : List Int}, a.Pairwise (· < ·) → b.Pairwise (· < ·) → (∀ k, k ∈ a ↔ k ∈ b) → a = b
  | [], [], _, _, _ => rfl
  | [], y :: b, _, _, m => by have := (m y).mpr (List.mem_cons_self ..); cases this
  | x :: a, [], _, _, m => by have := (m x).mp (List.mem_cons_self ..); cases this
  | x :: a, y :: b, ha, hb, m => by
    obtain ⟨h1, h2⟩ := List.pairwise_cons.mp ha
    obtain ⟨k1, k2⟩ := List.pairwise_cons.mp hb
    have e : x = y := by
      rcases List.mem_cons.mp ((m x).mp (List.mem_cons_self ..)) with z | z
      · exact z
      · rcases List.mem_cons.mp ((m y).mpr (List.mem_cons_self ..)) with u | u
        · exact u.symm
        · have := h1 y u; have := k1 x z; omega
    subst e
    rw [asc_same h2 k2 fun k => ?_]
    constructor
    · intro z
      rcases List.mem_cons.mp ((m k).mp (List.mem_cons_of_mem _ z)) with u | u
      · have := h1 k z; omega
      · exact u
    · intro z
      rcases List.mem_cons.mp ((m k).mpr (List.mem_cons_of_mem _ z)) with u | u
      · have := k1 k z; omega
      · exact u
theorem le_nodup_lt : ∀ {l : List Int}, l.Pairwise (· ≤ ·) → l.Nodup → l.Pairwise (· < ·)
  | [], _, _ => .nil
  | x :: l, h, n => by
    obtain ⟨h1, h2⟩ := List.pairwise_cons.mp h
    obtain ⟨n1, n2⟩ := List.nodup_cons.mp n
    refine List.pairwise_cons.mpr ⟨fun y hy => ?_, le_nodup_lt h2 n2⟩
    have a := h1 y hy
    have b : x ≠ y := fun e => n1 (e ▸ hy)
    omega
/-! ### how a tree lies -/
inductive TreeAt (H : Hp) : V → Tr → Prop where
  | leaf (s : Str) : TreeAt H (.str s) (.leaf s)
  | ask {p : Addr} {f : Int} {va vb vc : V} {a b c : Tr} (h : H p = some (.tup [.int f, va, vb, vc])) (ha : TreeAt H va a) (hb : TreeAt H vb b) (hc : TreeAt H vc c) : TreeAt H (.ref p) (.ask f a b c)
theorem TreeAt.keep {H H' : Hp} {v : V} {t : Tr} (k : ∀ p xs, H p = some (.tup xs) → H' p = some (.tup xs)) (h : TreeAt H v t) : TreeAt H' v t := by
  induction h with
  | leaf s => exact .leaf s
  | ask h _ _ _ i1 i2 i3 => exact .ask (k _ _ h) i1 i2 i3
theorem TreeAt.same {H H' : Hp} {v : V} {t : Tr} (h : TreeAt H v t) (e : Same H H') : TreeAt H' v t := h.keep fun p xs q => e p _ q
theorem TreeAt.but {H H' : Hp} {v : V} {t : Tr} {a : Addr} {l : List V} (h : TreeAt H v t) (b : But a H H') (ha : H a = some (.lst l)) : TreeAt H' v t := h.keep fun p xs q => b.tup ha q
/-- a tree that is an ask is a tuple -/
theorem TreeAt.inv {H : Hp} {v : V} {f : Int} {a b c : Tr} (h : TreeAt H v (.ask f a b c)) : ∃ p va vb vc, v = .ref p ∧ H p = some (.tup [.int f, va, vb, vc]) ∧ TreeAt H va a ∧ TreeAt H vb b ∧ TreeAt H vc c := by
  cases h with
  | ask h ha hb hc => exact ⟨_, _, _, _, rfl, h, ha, hb, hc⟩
theorem TreeAt.invL {H : Hp} {v : V} {s : Str} (h : TreeAt H v (.leaf s)) : v = .str s := by
  cases h; rfl
theorem TreeAt.tape {H H' : Hp} {v : V} {x : Tr} {t : Addr} (h : TreeAt H v x) (b : But t H H') (ha : Tape H t) : TreeAt H' v x := by
  obtain ⟨l, q⟩ := ha.lst
  exact h.but b q
theorem atI_0 (a b c d : V) : atI [a, b, c, d] 0 = some a := rfl
theorem atI_1 (a b c d : V) : atI [a, b, c, d] 1 = some b := rfl
theorem atI_2 (a b c d : V) : atI [a, b, c, d] 2 = some c := rfl
theorem atI_3 (a b c d : V) : atI [a, b, c, d] 3 = some d := rfl
theorem sgn_at {rs : List Int} {f : Int} (h0 : 0 ≤ f) (h1 : f < (rs.length : Int)) : atI (rs.map V.int) f = some (.int (Tr.sgn rs f)) := by
  have e : f = ((f.toNat : Nat) : Int) := by omega
  have hk : f.toNat < rs.length := by omega
  have q : atI (rs.map V.int) ((f.toNat : Nat) : Int) = some (.int (rs.getD f.toNat 0)) := atI_nat (by rw [List.getElem?_map, List.getElem?_eq_getElem hk, List.getD_eq_getElem?_getD, List.getElem?_eq_getElem hk]; rfl)
  rw [← e] at q
  exact q
theorem sgn_in {rs : List Int} {f : Int} (h0 : 0 ≤ f) (h1 : f < (rs.length : Int)) : Tr.sgn rs f ∈ rs := by
  have hk : f.toNat < rs.length := by omega
  unfold Tr.sgn
  rw [List.getD_eq_getElem?_getD, List.getElem?_eq_getElem hk]
  exact List.getElem_mem hk
/-- a list of trees -/
abbrev TreesAt (H : Hp) : List V → List Tr → Prop := Paired (TreeAt H)
theorem TreesAt.keep {H H' : Hp} {vs : List V} {ts : List Tr} (k : ∀ p xs, H p = some (.tup xs) → H' p = some (.tup xs)) (h : TreesAt H vs ts) : TreesAt H' vs ts := Paired.mapP h fun _ _ q => q.keep k

theorem upd_tup {H : Hp} {a p : Addr} {l : List V} {o : HO} {xs : List V} (h : H a = some (.lst l)) (e : H p = some (.tup xs)) : upd H a o p = some (.tup xs) := by
  rw [upd_ne (ne_of e h (by intro z; cases z))]; exact e
theorem new_tup {H : Hp} {a p : Addr} {o : HO} {xs : List V} (h : H a = none) (e : H p = some (.tup xs)) : upd H a o p = some (.tup xs) := by
  rw [upd_ne (ne_of_none e h)]; exact e
theorem inV_int (k : Int) (l : List Int) : inV (.int k) (l.map V.int) = decide (k ∈ l) := by
  unfold inV
  rw [List.any_map]
  induction l with
  | nil => rfl
  | cons a l ih =>
    rw [List.any_cons, ih]
    simp only [Function.comp, eqV, List.mem_cons]
    by_cases e : a = k
    · subst e; simp
    · have e2 : ¬ k = a := fun z => e z.symm
      simp [e, e2]
theorem flat_ints (l : List Int) : (l.map V.int).all flatV = true := by
  rw [List.all_map]; exact List.all_eq_true.mpr fun _ _ => rfl
theorem dpInts {K : PySem.W.Frag} {H : Hp} : ∀ l : List Int, DpAll K H (l.map V.int) (l.map PyData.int)
  | [] => .nil
  | x :: l => .cons (.int x) (dpInts l)
theorem canInts : ∀ l : List Int, (PyData.list (l.map PyData.int)).canLay0 = true := fun l => by
  have : ∀ l : List Int, PyData.canLayAll0 (l.map PyData.int) = true := fun l => by
    induction l with
    | nil => rfl
    | cons x l ih => simp only [List.map_cons, PyData.canLayAll0, PyData.canLay0, Bool.true_and]; exact ih
  simp only [PyData.canLay0]
  exact this l
theorem depthInts : ∀ l : List Int, (PyData.list (l.map PyData.int)).depth ≤ 64 := fun l => by
  have : ∀ l : List Int, PyData.depthAll (l.map PyData.int) ≤ 1 := fun l => by
    induction l with
    | nil => simp [PyData.depthAll]
    | cons x l ih => simp only [List.map_cons, PyData.depthAll, PyData.depth]; omega
  have := this l
  simp only [PyData.depth]
  omega
theorem shapedInts (l : List Int) : SeqAt.shaped (PyData.list (l.map PyData.int)) = true := by
  unfold SeqAt.shaped
  rw [canInts l, decide_eq_true (depthInts l)]
  rfl
end My

set_option Elab.async false
set_option linter.all false
set_option maxRecDepth 100000
/-! My classes: methods, properties and makings by name; constants of a module. -/
namespace My
open PySem PySem.Spec PyProof.Rows L2

/-- a method (qual: its qualified name) as the text has it -/
structure DfM (K : PySem.W.Frag) (C : Addr) (m qual : Str) (st : Stmt) (ps : List Str) : Prop where
  ex : ∃ (f : Addr) (fd : FuncData), Fun K m qual st f fd ∧ Binds K fd ps [] ∧ Meth K C m f
structure DfP (K : PySem.W.Frag) (C : Addr) (m qual : Str) (st : Stmt) (ps : List Str) : Prop where
  ex : ∃ (p f : Addr) (fd : FuncData), Fun K m qual st f fd ∧ Binds K fd ps [] ∧ PropOf K C m p f
structure DfI (K : PySem.W.Frag) (mg : Str → Option Value) (x : Str) (C : Addr) (qual : Str) (st : Stmt) (ps : List Str) : Prop where
  ex : ∃ (f : Addr) (fd : FuncData), Fun K "__init__" qual st f fd ∧ Binds K fd ps [] ∧ Mk K C f ∧ mg x = some (.ref C)
structure DnM (P : Program) (w : World) (K : PySem.W.Frag) (mg : Str → Option Value) (base : Heap) (k : Nat) (C : Addr) (m : Str) (sp : Sp) : Prop where
  ex : ∃ (f : Addr) (fd : FuncData) (ps : List Str), FnOk P w K mg base CX0 k f fd ps sp ∧ Meth K C m f ∧ Binds K fd ps []
structure DnP (P : Program) (w : World) (K : PySem.W.Frag) (mg : Str → Option Value) (base : Heap) (k : Nat) (C : Addr) (m : Str) (sp : Sp) : Prop where
  ex : ∃ (p f : Addr) (fd : FuncData) (ps : List Str), FnOk P w K mg base CX0 k f fd ps sp ∧ PropOf K C m p f ∧ Binds K fd ps []
structure DnI (P : Program) (w : World) (K : PySem.W.Frag) (mg : Str → Option Value) (base : Heap) (k : Nat) (x : Str) (C : Addr) (sp : Sp) : Prop where
  ex : ∃ (f : Addr) (fd : FuncData) (ps : List Str), FnOk P w K mg base CX0 k f fd ps sp ∧ Mk K C f ∧ mg x = some (.ref C) ∧ Binds K fd ps []
section
variable {P : Program} {w : World} {K : PySem.W.Frag} {mg : Str → Option Value} {base : Heap} {C : Addr} {m qual x : Str} {st : Stmt} {N ps : List Str} {k : Nat} {sp : Sp}
theorem DfM.ok (F : DfM K C m qual st ps) (S : FnScope N ps (defScope st)) (len : ∀ vs H Q E, sp vs H Q E → vs.length = ps.length)
    (body : ∀ (f : Addr) (cdv : Value) (A : Around) (outer : List Env) (s : Shared) (H : Hp) (vs : List V) (Q : VK) (E : XK),
      Room k (A.deeper (envOfC qual (defScope st) s.heap.objs.size f cdv)) → sp vs H Q E →
      ∃ t, PSs (cxOf CX0 P w K mg base N qual (defScope st) f cdv A outer s H E).nox (defBody st) t ∧
        t { nx := fun _ H' => Q .non H', rt := Q } (start N vs) H) : DnM P w K mg base (k + 1) C m sp := by
  obtain ⟨f, fd, F, b, m⟩ := F.ex
  exact ⟨f, fd, ps, F.ok S len (body f), m, b⟩
theorem DfP.ok (F : DfP K C m qual st ps) (S : FnScope N ps (defScope st)) (len : ∀ vs H Q E, sp vs H Q E → vs.length = ps.length)
    (body : ∀ (f : Addr) (cdv : Value) (A : Around) (outer : List Env) (s : Shared) (H : Hp) (vs : List V) (Q : VK) (E : XK),
      Room k (A.deeper (envOfC qual (defScope st) s.heap.objs.size f cdv)) → sp vs H Q E →
      ∃ t, PSs (cxOf CX0 P w K mg base N qual (defScope st) f cdv A outer s H E).nox (defBody st) t ∧
        t { nx := fun _ H' => Q .non H', rt := Q } (start N vs) H) : DnP P w K mg base (k + 1) C m sp := by
  obtain ⟨p, f, fd, F, b, m⟩ := F.ex
  exact ⟨p, f, fd, ps, F.ok S len (body f), m, b⟩
theorem DfI.ok (F : DfI K mg x C qual st ps) (S : FnScope N ps (defScope st)) (len : ∀ vs H Q E, sp vs H Q E → vs.length = ps.length)
    (body : ∀ (f : Addr) (cdv : Value) (A : Around) (outer : List Env) (s : Shared) (H : Hp) (vs : List V) (Q : VK) (E : XK),
      Room k (A.deeper (envOfC qual (defScope st) s.heap.objs.size f cdv)) → sp vs H Q E →
      ∃ t, PSs (cxOf CX0 P w K mg base N qual (defScope st) f cdv A outer s H E).nox (defBody st) t ∧
        t { nx := fun _ H' => Q .non H', rt := Q } (start N vs) H) : DnI P w K mg base (k + 1) x C sp := by
  obtain ⟨f, fd, F, b, m, g⟩ := F.ex
  exact ⟨f, fd, ps, F.ok S len (body f), m, g, b⟩
end
section
variable {X : Cx} {k : Nat} {x m : Str} {C : Addr} {sp : Sp} {o e : Expr} {es : List Expr} {ta : TE} {t : TA} {p pos apos : Pos}
theorem pe_callM {pl : Sem Bool} (D : DnM X.prog X.w X.K X.mg X.base k C m sp) (c : Cls X.K C) (hr : Room k X.A) (he : PE X o ta) (ha : PA X (e :: es) t)
    (h1 : starEach (e :: es) X.env = (false, eval e X.env) :: starEach es X.env := by rfl) (h2 : (backTo pos (starEach es X.env)).any (·.1) = false := by rfl)
    (h3 : eval (.Call (.Attribute o m apos) (e :: es) [] pos) X.env = (do
      let ov ← eval o X.env; standAt apos.atName; let (f, first) ← holding [ov] (getMethod ov m pl)
      callWith pos f first (backTo pos (starEach (e :: es) X.env)) (backToKw pos (keywordEach [] X.env))) := by rfl) :
    PE X (.Call (.Attribute o m apos) (e :: es) [] pos) (tMeth C m sp [] E0 ta t) := by
  obtain ⟨f, fd, ps, F, q, b⟩ := D.ex
  exact pe_meth he c q F hr b .nil pass0 ha h1 h2 h3
theorem pe_callM0 {pl : Sem Bool} (D : DnM X.prog X.w X.K X.mg X.base k C m sp) (c : Cls X.K C) (hr : Room k X.A) (he : PE X o ta)
    (h3 : eval (.Call (.Attribute o m apos) [] [] pos) X.env = (do
      let ov ← eval o X.env; standAt apos.atName; let (f, first) ← holding [ov] (getMethod ov m pl)
      callWith pos f first (backTo pos (starEach [] X.env)) (backToKw pos (keywordEach [] X.env))) := by rfl) :
    PE X (.Call (.Attribute o m apos) [] [] pos) (tMeth C m sp [] E0 ta tNil) := by
  obtain ⟨f, fd, ps, F, q, b⟩ := D.ex
  exact pe_meth0 he c q F hr b .nil pass0 h3
theorem pe_propD (D : DnP X.prog X.w X.K X.mg X.base k C m sp) (c : Cls X.K C) (hr : Room (k + 1) X.A) (he : PE X o ta) (h1 : attributeBase o m X.env (eval o X.env) = eval o X.env) :
    PE X (.Attribute o m pos) (tProp C sp [] E0 ta) := by
  obtain ⟨p, f, fd, ps, F, q, b⟩ := D.ex
  exact pe_prop he c q F hr b .nil pass0 h1
theorem pe_makeD (D : DnI X.prog X.w X.K X.mg X.base k x C sp) (hr : Room (k + 1) X.A) (hg : Gl X x) (ha : PA X (e :: es) t) (hdb : (x == ("__debug__" : Str)) = false := by decide)
    (h1 : starEach (e :: es) X.env = (false, eval e X.env) :: starEach es X.env := by rfl) (h2 : (backTo pos (starEach es X.env)).any (·.1) = false := by rfl) :
    PE X (.Call (.Name x p) (e :: es) [] pos) (tMake C sp [] E0 t) := by
  obtain ⟨f, fd, ps, F, M, g, b⟩ := D.ex
  exact pe_make M F hr hg g b .nil pass0 ha hdb h1 h2
/-- a number of the module -/
theorem pe_globI {i : Int} (hg : Gl X x) (h : ∃ t, X.mg x = some (.int i t)) (hd : (x == ("__debug__" : Str)) = false := by decide) : PE X (.Name x pos) (tC (.int i)) := by
  obtain ⟨t, h⟩ := h
  exact pe_glob hg h ⟨_, rfl⟩ hd
theorem pe_globS {i : Str} (hg : Gl X x) (h : ∃ t, X.mg x = some (.str i t)) (hd : (x == ("__debug__" : Str)) = false := by decide) : PE X (.Name x pos) (tC (.str i)) := by
  obtain ⟨t, h⟩ := h
  exact pe_glob hg h ⟨_, rfl⟩ hd
theorem fldK {K : PySem.W.Frag} {f : Str} (h : X.K = K) (he : PE X e ta) (hb : attributeBase e f X.env (eval e X.env) = eval e X.env) : PE X (.Attribute e f pos) (tFld K ta f) := h ▸ pe_fld he hb
theorem ix_kdictK {K : PySem.W.Frag} {w : World} (h : X.K = K) (h2 : X.w = w) : IxR X (rIxD K w) := h ▸ h2 ▸ ix_kdict
theorem pi_listK {K : PySem.W.Frag} {tg : Expr} (h : X.K = K) (he : PE X e ta) : PI X tg e (iList K ta) := h ▸ pi_list he
theorem pi_tupK {K : PySem.W.Frag} {tg : Expr} (h : X.K = K) (he : PE X e ta) : PI X tg e (iTup K ta) := h ▸ pi_tup he
end
end My

set_option Elab.async false
set_option linter.all false
set_option maxRecDepth 100000
/-! My walks over what is a list or a tuple: for x in xs, for i, x in enumerate(xs). -/
namespace My
open PySem PySem.Spec PyProof.Rows L2

set_option maxHeartbeats 1000000 in
theorem meets_enum_newB {v : Value} {o : Obj} {H : Heap → Prop} (B : Begins v o H) :
    Meets (Builtin.«enumerate.__new__» ⟨[.type "enumerate", v], []⟩) (fun _ R s => H s.heap ∧
      R (.ok (.ret (.ref (s.heap.push o).objs.size))) { s with heap := (s.heap.push o).push { cls := .type "enumerate", data := .fields #[.none, .bool false, .ref s.heap.objs.size, rawInt 0, .none, .none] } }) :=
  .of_wp fun prog w A R s h => by
    obtain ⟨hp, g, d, tk, os⟩ := s; obtain ⟨h1, h⟩ := h
    have hsub := sub_enumerate
    have q1 : ∀ {A' : Around} {E : Value → Shared → Prop} {Q : Value → Shared → Prop}, Q (.ref hp.objs.size) ⟨hp.push o, g, d, tk, os⟩ → wpAny (model prog w) A' (pyIter v) Q E ⟨hp, g, d, tk, os⟩ :=
      fun q => B.iter prog w _ _ ⟨hp, g, d, tk, os⟩ _ h1 q
    wp_walk using q1
    refine wpAny_stack_any fun st => wpAny_pure ?_
    split
    · rename_i c _ _ _ _ _
      cases (c == Value.type "enumerate")
      · wp_walk using q1
        exact ⟨_, rfl, h⟩
      · wp_walk using q1
        exact ⟨_, rfl, h⟩
    · wp_walk using q1
      exact ⟨_, rfl, h⟩
theorem enum_begins1 {prog : Program} {w : World} {A : Around} {E : Value → Shared → Prop} {s : Shared} {v : Value} {o : Obj} {H : Heap → Prop} {Q : Value → Shared → Prop} (B : Begins v o H) (h1 : H s.heap)
    (h : ∀ h', IsEnum h' (s.heap.objs.size + 1) s.heap.objs.size 0 .none → h'.get? s.heap.objs.size = some o → (∀ b o, s.heap.get? b = some o → h'.get? b = some o) → Q (.ref (s.heap.objs.size + 1)) { s with heap := h' }) :
    wpAny (model prog w) A (call (.type "enumerate") [v]) Q E s := by
  refine callType_new F.called_enumerate (by decide) (F.typeCall_enumerate_1 _) (F.newCall_enumerate_1 _) (fun obj => F.args_object_init_2 obj _) F.entry_enumerate_new (meets_enum_newB B) ⟨h1, ?_⟩
  have hz : (s.heap.push o).objs.size = s.heap.objs.size + 1 := Heap.size_push ..
  show _ ∧ _
  rw [hz]
  have he : IsEnum ((s.heap.push o).push { cls := .type "enumerate", data := .fields #[.none, .bool false, .ref s.heap.objs.size, rawInt 0, .none, .none] }) (s.heap.objs.size + 1) s.heap.objs.size 0 .none := by
    have := Heap.get?_push_size (s.heap.push o) (o := { cls := .type "enumerate", data := .fields #[.none, .bool false, .ref s.heap.objs.size, rawInt 0, .none, .none] }) rfl
    rw [hz] at this; exact this
  exact ⟨⟨_, he, rfl⟩, h _ he (Heap.get?_push_of_some _ (Heap.get?_push_size _ B.free)) fun b o x => Heap.get?_push_of_some _ (Heap.get?_push_of_some _ x)⟩

/-- the tuple at a, each item in a new pair -/
def IteT (K : PySem.W.Frag) (a : Addr) : It :=
  ⟨fun i H => ∃ (xs : List V) (x : V), SqT K H a xs ∧ xs[i]? = some x, fun i H v H' => ∃ T x, v = .ref T ∧ H T = none ∧ H' = upd H T (.tup [.int (i : Nat), x]) ∧ ∀ xs, SqT K H a xs → xs[i]? = some x, fun i H => ∃ xs : List V, SqT K H a xs ∧ xs.length = i⟩
theorem turn_enumT {P : Program} {w : World} {K : PySem.W.Frag} {elts : List Expr} {kk : Nat} {tpos : Pos} (a e it : Addr) :
    Turn P w K (.Tuple elts kk tpos) (IteT K a) [e, it] e (fun i h => (∃ old, IsEnum h e it ((i : Nat) : Int) old) ∧ h.IsTupleIter it a i ∧ e ≠ it) where
  mem := by simp
  obj := fun i h st b hb => by
    obtain ⟨⟨old, he⟩, ⟨o, ho, hc, hd⟩, _⟩ := st
    have e' : b = e ∨ b = it := by simpa using hb
    rcases e' with z | z
    · rw [z]; exact ⟨_, he, fun v q => nomatch q⟩
    · rw [z]; exact ⟨o, ho, fun v q => by rw [hd] at q; cases q⟩
  keep := fun i h h' st k => let ⟨⟨old, he⟩, hi, hne⟩ := st; ⟨⟨old, k e (by simp) _ he⟩, hi.at fun o q => k it (by simp) o q, hne⟩
  item := by
    intro X hP hw hK hc i pins s σ H E I hf st hg
    subst hP hw hK
    obtain ⟨⟨old, he⟩, hit, hne⟩ := st
    obtain ⟨xs, x, hq, hx⟩ := hg
    obtain ⟨its, rv, p, hz⟩ := I.tuple hq
    have p : s.heap.IsTuple a its.toArray := p
    obtain ⟨u, hu, ru⟩ := rv.get hx
    have hel : e < s.heap.objs.size := Heap.lt_size he
    have hil : it < s.heap.objs.size := by obtain ⟨_, q, _⟩ := hit; exact Heap.lt_size q
    have hai : a ≠ it := by
      rintro rfl
      obtain ⟨o, q, c, _⟩ := hit
      obtain ⟨o', q', c', _⟩ := p
      rw [q] at q'
      cases q'
      exact absurd (c.symm.trans c') (by decide)
    have hae : a ≠ e := by
      rintro rfl
      obtain ⟨o', q', c', _⟩ := p
      have he' : s.heap.get? a = some _ := he
      rw [he'] at q'
      cases q'
      exact absurd (show Value.type "enumerate" = Value.type "tuple" from c') (by decide)
    have hil' : i < its.length := by
      have := (List.getElem?_eq_some_iff.mp hu).1
      exact this
    refine wpAny_pyNext_enum_itemD (old := old) (Draws.tuple (prog := X.prog) (w := X.w) (A := X.A.in1) (by rw [show X.A.in1.handled = X.A.handled from rfl]; exact I.ok.hd hc) it a hai its.toArray) he ⟨hit, p⟩ (by simpa using hil') hne (by simp [hne, Ne.symm hae]) fun y h' tk hy ho hit' hT hsz hk => ?_
    have hy : its.toArray[i]? = some y := hy
    obtain rfl : y = u := by rw [show its.toArray[i]? = its[i]? by simp] at hy; rw [hu] at hy; exact (Option.some.inj hy).symm
    refine ⟨_, rfl, wpAny_letOwnedTupleGo_enum (s := { s with heap := h', toks := tk + 1 }) ho fun h'' he' sb => ?_⟩
    have hT2 : h''.get? s.heap.objs.size = some { cls := .type "tuple", data := .seq #[.int i tk, y] } := (sb.2 _ (Nat.ne_of_gt hel)).trans hT
    have new : ObjOk X.prog X.w (upd H s.heap.objs.size (.tup [.int (i : Nat), x])) h'' s.heap.objs.size (.tup [.int (i : Nat), x]) :=
      ⟨by show 2 ≤ sizeLine; decide, [.int i tk, y], .cons ⟨_, rfl⟩ (.cons ru .nil), ⟨_, hT2, rfl, _, rfl⟩⟩
    have I1 : Inv X pins σ (upd H s.heap.objs.size (.tup [.int (i : Nat), x])) { s with heap := h'', toks := tk + 1 } :=
      I.turnedNew (ch := [e, it]) (fun b ob hb q => (sb.2 b (fun z => hb (by simp [z]))).trans (hk b ob (fun z => hb (by simp [z])) (fun z => hb (by simp [z])) q)) hf (Nat.le_refl _) new
    refine ⟨.ref s.heap.objs.size, _, I1, rfl, ⟨_, x, rfl, I.hok.fresh (Nat.le_refl _), rfl, fun ys hy => by rw [I.tuple_inj hy hq]; exact hx⟩, ⟨⟨y, ?_⟩, hit'.1.at fun o q => (sb.2 it (Ne.symm hne)).trans q, hne⟩, fun b hb => ?_⟩
    · have e1 : ((i + 1 : Nat) : Int) = (i : Int) + 1 := by omega
      rw [e1]; exact he'
    · have hb' : b < s.heap.objs.size := by
        have e' : b = e ∨ b = it := by simpa using hb
        rcases e' with z | z
        · rw [z]; exact hel
        · rw [z]; exact hil
      rw [upd_ne (Nat.ne_of_lt hb')]
      exact (hf b hb).1
  done := by
    intro X hP hw hK hc i pins s σ H E I hf st hg
    subst hP hw hK
    obtain ⟨⟨old, he⟩, hit, hne⟩ := st
    obtain ⟨xs, hq, hx⟩ := hg
    obtain ⟨its, rv, p, hz⟩ := I.tuple hq
    have p : s.heap.IsTuple a its.toArray := p
    obtain ⟨f0, f1, f2, f3, f4, f5⟩ := hf it (by simp)
    have hai : a ≠ it := by
      rintro rfl
      obtain ⟨o, q, c, _⟩ := hit
      obtain ⟨o', q', c', _⟩ := p
      rw [q] at q'
      cases q'
      exact absurd (c.symm.trans c') (by decide)
    have hae : a ≠ e := by
      rintro rfl
      obtain ⟨o', q', c', _⟩ := p
      have he' : s.heap.get? a = some _ := he
      rw [he'] at q'
      cases q'
      exact absurd (show Value.type "enumerate" = Value.type "tuple" from c') (by decide)
    have hl := rv.length
    have hn : its.toArray.size = i := by simp; omega
    refine wpAny_pyNext_enum_endD (Draws.tuple (prog := X.prog) (w := X.w) (A := X.A.in1) (by rw [show X.A.in1.handled = X.A.handled from rfl]; exact I.ok.hd hc) it a hai its.toArray) he ⟨by rw [hn]; exact hit, p⟩ fun h' eb => ⟨rfl, I.turned (t' := s.toks) (fun b o hb q => eb b o hb q) f0 f1 f3 f4 f5⟩
  self := fun A i s Q E st h => let ⟨⟨_, he⟩, _⟩ := st; wpAny_pyIter_enum he h

/-! ### what is a list or a tuple -/
def SqX (K : PySem.W.Frag) (H : Hp) (a : Addr) (xs : List V) : Prop := SqL K H a xs ∨ SqT K H a xs
theorem SqX.same {K : PySem.W.Frag} {H H' : Hp} {a : Addr} {xs : List V} (g : Same H H') (h : SqX K H a xs) : SqX K H' a xs := h.imp g.seq g.seqT
def iSq (K : PySem.W.Frag) (tl : TE) : TI := fun σ H R => tl σ H fun x H1 => ∃ a xs, x = .ref a ∧ SqX K H1 a xs ∧ ∀ (J : It) (G : Hp → Prop), Walk J xs.length G (YAt xs) → (∀ H', Same H1 H' → G H') → R J H1
def iEn (K : PySem.W.Frag) (ta : TA) : TI := fun σ H R => ta σ H fun vs H1 => ∃ a xs, vs = [.ref a] ∧ SqX K H1 a xs ∧ ∀ (J : It) (G : Hp → Prop), Walk J xs.length G (YPair (fun i => some (.int (i : Nat))) (fun i => xs[i]?)) → (∀ H', Same H1 H' → G H') → R J H1
section
variable {K : PySem.W.Frag} {a : Addr} {xs : List V}
theorem walk_enumT : Walk (IteT K a) xs.length (fun H => SqT K H a xs) (YPair (fun i => some (.int (i : Nat))) (fun i => xs[i]?)) := by
  refine ⟨fun i _ hi q => ⟨xs, xs[i], q, by simp [hi]⟩, fun _ q => ⟨xs, q, rfl⟩, fun i H v H' _ q y => ?_⟩
  obtain ⟨T, x, h1, h2, h3, h4⟩ := y
  exact ⟨T, .int (i : Nat), x, h1, h2, h3, rfl, h4 xs q⟩
end
section
variable {X : Cx} {tg e : Expr}
theorem pi_sq {tl : TE} (hl : PE X e tl) : PI X tg e (iSq X.K tl) := by
  refine ⟨fun pins s σ H R I h => ?_⟩
  refine thn (hl.run pins s σ H _ I h) fun v s1 ⟨x, H1, I1, r1, q1⟩ => ?_
  obtain ⟨a, xs, ex, hq, q⟩ := q1
  subst ex
  cases r1
  rcases hq with hq | hq
  · obtain ⟨its, rv, p, hz⟩ := I1.list hq
    have q := q (Itl X.K a) _ walk_list fun H' g => g.seq hq
    refine wpAny_pyIter_list p.isList ?_
    refine ⟨s1.heap.objs.size, [s1.heap.objs.size], _, _, H1, rfl, I1.kept (t' := s1.toks) fun b o e => Heap.get?_push_of_some _ e, turn_list a _, ⟨_, Heap.get?_push_size _ rfl, rfl, rfl⟩, fun b hb => ?_, q⟩
    have e : b = s1.heap.objs.size := by simpa using hb
    subst e
    exact I1.fpOk (Nat.le_refl _) (I1.hok.fresh (Nat.le_refl _))
  · obtain ⟨its, rv, p, hz⟩ := I1.tuple hq
    have q := q (Itt X.K a) _ walk_tup fun H' g => g.seqT hq
    refine wpAny_pyIter_tuple (show s1.heap.IsTuple a its.toArray from p) ?_
    refine ⟨s1.heap.objs.size, [s1.heap.objs.size], _, _, H1, rfl, I1.kept (t' := s1.toks) fun b o e => Heap.get?_push_of_some _ e, turn_tuple a _, ⟨_, Heap.get?_push_size _ rfl, rfl, rfl⟩, fun b hb => ?_, q⟩
    have e : b = s1.heap.objs.size := by simpa using hb
    subst e
    exact I1.fpOk (Nat.le_refl _) (I1.hok.fresh (Nat.le_refl _))
theorem pi_en {ta : TA} {p pos tpos : Pos} {elts : List Expr} {kk : Nat} (hg : Gl X "enumerate") (hm : X.mg "enumerate" = none) (ha : PA X [e] ta) (hs : starEach [e] X.env = [(false, eval e X.env)] := by rfl) :
    PI X (.Tuple elts kk tpos) (.Call (.Name "enumerate" p) [e] [] pos) (iEn X.K ta) := by
  refine ⟨fun pins s σ H R I h => ?_⟩
  refine Call_ (ld_blt I hg hm boot_enumerate (PyProof.Rows.callWith_type1 (thn (ha.run pos pins s σ H _ I h) fun us s1 ⟨vs, H1, I1, r1, q1⟩ => ?_) hs rfl))
  obtain ⟨a, xs, ex, hq, q⟩ := q1
  subst ex
  cases r1 with
  | cons r rr =>
    cases rr
    cases r
    have fp : ∀ b ∈ [s1.heap.objs.size + 1, s1.heap.objs.size], FpOk X pins H1 b := fun b hb => by
      have e' : b = s1.heap.objs.size + 1 ∨ b = s1.heap.objs.size := by simpa using hb
      have hle : s1.heap.objs.size ≤ b := by
        rcases e' with z | z
        · rw [z]; exact Nat.le_add_right _ _
        · rw [z]; exact Nat.le_refl _
      exact I1.fpOk hle (I1.hok.fresh hle)
    rcases hq with hq | hq
    · obtain ⟨its, rv, p', hz⟩ := I1.list hq
      have q := q (Ite X.K a) _ walk_enum fun H' g => g.seq hq
      refine call_enumerate_list p'.isList fun h' he hit hsz hk => wpAny_pyIter_enum he ?_
      have I2 : Inv X pins σ H1 { s1 with heap := h' } := I1.kept (t' := s1.toks) hk
      exact ⟨s1.heap.objs.size + 1, [s1.heap.objs.size + 1, s1.heap.objs.size], _, _, H1, rfl, I2, turn_enum a (s1.heap.objs.size + 1) s1.heap.objs.size, ⟨⟨.none, he⟩, hit, Nat.succ_ne_self _⟩, fp, q⟩
    · obtain ⟨its, rv, p', hz⟩ := I1.tuple hq
      have q := q (IteT X.K a) _ walk_enumT fun H' g => g.seqT hq
      refine enum_begins1 (begins_tuple a its.toArray) p' fun h' he ho hk => wpAny_pyIter_enum he ?_
      have I2 : Inv X pins σ H1 { s1 with heap := h' } := I1.kept (t' := s1.toks) hk
      exact ⟨s1.heap.objs.size + 1, [s1.heap.objs.size + 1, s1.heap.objs.size], _, _, H1, rfl, I2, turn_enumT a (s1.heap.objs.size + 1) s1.heap.objs.size, ⟨⟨.none, he⟩, ⟨_, ho, rfl, rfl⟩, Nat.succ_ne_self _⟩, fp, q⟩
end
end My

set_option Elab.async false
set_option linter.all false
set_option maxRecDepth 100000
/-! My forests: parents by field, no way that comes round; the path of a field. -/
namespace My
open PySem PySem.Spec PyProof.Rows L2
def nV (i : Nat) : V := .int (i : Int)
def pV : Option Nat → V
  | none => .non
  | some p => .int (p : Int)
def par (ps : List (Option Nat)) (i : Nat) : Option Nat := (ps[i]?).join
theorem par_lt {ps : List (Option Nat)} {i p : Nat} (h : par ps i = some p) : i < ps.length := by
  unfold par at h
  cases e : ps[i]? with
  | none => rw [e] at h; cases h
  | some x => exact (List.getElem?_eq_some_iff.mp e).1
theorem par_get {ps : List (Option Nat)} {i : Nat} (h : i < ps.length) : ps[i]? = some (par ps i) := by
  unfold par
  rw [List.getElem?_eq_getElem h]
  rfl
theorem par_mem {ps : List (Option Nat)} {i p : Nat} (h : par ps i = some p) : some p ∈ ps := by
  have := par_get (par_lt h)
  rw [h] at this
  exact List.mem_of_getElem? this
theorem mem_par {ps : List (Option Nat)} {p : Nat} (h : some p ∈ ps) : ∃ i, par ps i = some p := by
  obtain ⟨i, hi, e⟩ := List.mem_iff_getElem.mp h
  exact ⟨i, by unfold par; rw [List.getElem?_eq_getElem hi, e]; rfl⟩
theorem par_at {ps : List (Option Nat)} {i : Nat} (h : i < ps.length) : (ps.map pV)[i]? = some (pV (par ps i)) := by
  rw [List.getElem?_map, par_get h]
  rfl
theorem par_set {ps : List (Option Nat)} {j p : Nat} (h : j < ps.length) (i : Nat) : par (ps.set j (some p)) i = if i = j then some p else par ps i := by
  unfold par
  rw [List.getElem?_set]
  by_cases e : j = i
  · subst e; rw [if_pos rfl, if_pos rfl, if_pos h]; rfl
  · rw [if_neg e, if_neg (fun z => e z.symm)]
theorem rgV_nats (n : Nat) : rgV 0 (n : Int) = (List.range n).map nV := by
  unfold rgV
  rw [Int.sub_zero, Int.toNat_natCast]
  refine List.map_congr_left fun x _ => ?_
  show V.int (0 + (x : Int)) = V.int (x : Int)
  rw [Int.zero_add]
theorem eraseIdx_perm {α : Type} : ∀ {l : List α} {i : Nat} (h : i < l.length), (l[i] :: l.eraseIdx i).Perm l
  | [], _, h => by simp at h
  | x :: l, 0, _ => .refl _
  | x :: l, i + 1, h => by
    have h' : i < l.length := by simpa using h
    show (l[i] :: x :: l.eraseIdx i).Perm (x :: l)
    exact (List.Perm.swap x l[i] _).trans ((eraseIdx_perm h').cons x)
theorem eraseIdx_map {α β : Type} (f : α → β) : ∀ (l : List α) (i : Nat), (l.map f).eraseIdx i = (l.eraseIdx i).map f
  | [], _ => rfl
  | x :: l, 0 => rfl
  | x :: l, i + 1 => by
    show f x :: (l.map f).eraseIdx i = f x :: (l.eraseIdx i).map f
    rw [eraseIdx_map f l i]
/-- no way comes round -/
structure Acy (ps : List (Option Nat)) : Prop where
  lt : ∀ {i p : Nat}, par ps i = some p → p < ps.length
  rk : ∃ r : Nat → Nat, (∀ i, i < ps.length → r i < ps.length) ∧ ∀ {i p : Nat}, par ps i = some p → r p < r i
def pathF (ps : List (Option Nat)) : Nat → Nat → List Nat
  | 0, i => [i]
  | k + 1, i => match par ps i with
    | none => [i]
    | some p => pathF ps k p ++ [i]
def path (ps : List (Option Nat)) (i : Nat) : List Nat := pathF ps ps.length i
theorem pathF_eq {ps : List (Option Nat)} {r : Nat → Nat} (hr : ∀ {i p : Nat}, par ps i = some p → r p < r i) : ∀ (k m i : Nat), r i ≤ k → r i ≤ m → pathF ps k i = pathF ps m i
  | 0, 0, i, _, _ => rfl
  | 0, m + 1, i, h, _ => by
    cases e : par ps i with
    | none => simp only [pathF, e]
    | some p => have := hr e; omega
  | k + 1, 0, i, _, h => by
    cases e : par ps i with
    | none => simp only [pathF, e]
    | some p => have := hr e; omega
  | k + 1, m + 1, i, h1, h2 => by
    cases e : par ps i with
    | none => simp only [pathF, e]
    | some p =>
      have := hr e
      simp only [pathF, e]
      rw [pathF_eq hr k m p (by omega) (by omega)]
theorem path_root {ps : List (Option Nat)} {i : Nat} (h : par ps i = none) : path ps i = [i] := by
  unfold path
  cases ps.length with
  | zero => rfl
  | succ k => simp only [pathF, h]
theorem path_step {ps : List (Option Nat)} (A : Acy ps) {i p : Nat} (h : par ps i = some p) : path ps i = path ps p ++ [i] := by
  obtain ⟨r, r1, r2⟩ := A.rk
  have hi := par_lt h
  have hp := A.lt h
  have h1 := r1 i hi
  have h2 := r1 p hp
  have h3 := r2 h
  unfold path
  rw [pathF_eq r2 ps.length (r p + 1 + (ps.length - r p - 1)) i (by omega) (by omega)]
  rw [show r p + 1 + (ps.length - r p - 1) = (ps.length - 1) + 1 by omega]
  simp only [pathF, h]
  rw [pathF_eq r2 (ps.length - 1) ps.length p (by omega) (by omega)]
theorem path_len {ps : List (Option Nat)} (A : Acy ps) {i : Nat} (hi : i < ps.length) : (path ps i).length ≤ ps.length := by
  obtain ⟨r, r1, r2⟩ := A.rk
  have len : ∀ k i, (pathF ps k i).length ≤ k + 1 := fun k => by
    induction k with
    | zero => intro i; exact Nat.le_refl _
    | succ k ih =>
      intro i
      cases e : par ps i with
      | none => simp only [pathF, e, List.length_cons, List.length_nil]; omega
      | some p =>
        have := ih p
        simp only [pathF, e, List.length_append, List.length_cons, List.length_nil]
        omega
  unfold path
  have h1 := r1 i hi
  rw [pathF_eq r2 ps.length (ps.length - 1) i (by omega) (by omega)]
  have := len (ps.length - 1) i
  omega
theorem path_lt {ps : List (Option Nat)} (A : Acy ps) {i : Nat} (hi : i < ps.length) : ∀ j ∈ path ps i, j < ps.length := by
  have key : ∀ k i, i < ps.length → ∀ j ∈ pathF ps k i, j < ps.length := fun k => by
    induction k with
    | zero => intro i hi j hj; rw [List.mem_singleton.mp hj]; exact hi
    | succ k ih =>
      intro i hi j hj
      cases e : par ps i with
      | none => simp only [pathF, e, List.mem_singleton] at hj; rw [hj]; exact hi
      | some p =>
        simp only [pathF, e, List.mem_append, List.mem_singleton] at hj
        rcases hj with hj | hj
        · exact ih p (A.lt e) j hj
        · rw [hj]; exact hi
  exact key _ i hi
theorem path_ne (ps : List (Option Nat)) (i : Nat) : path ps i ≠ [] := by
  unfold path
  cases ps.length with
  | zero => exact List.cons_ne_nil _ _
  | succ k =>
    cases e : par ps i with
    | none => simp [pathF, e]
    | some p => simp [pathF, e]
theorem path_self (ps : List (Option Nat)) (A : Acy ps) (i : Nat) : i ∈ path ps i := by
  cases e : par ps i with
  | none => rw [path_root e]; exact List.mem_singleton.mpr rfl
  | some p => rw [path_step A e]; simp
/-- places in a list without repetitions -/
theorem idx_at {α : Type} [DecidableEq α] : ∀ {ts : List α} {a : Nat} {x : α}, ts.Nodup → ts[a]? = some x → ts.idxOf x = a
  | [], _, _, _, h => by simp at h
  | y :: ts, 0, x, _, h => by simp at h; subst h; exact List.idxOf_cons_self
  | y :: ts, a + 1, x, n, h => by
    obtain ⟨n1, n2⟩ := List.nodup_cons.mp n
    have h : ts[a]? = some x := by simpa using h
    have e : y ≠ x := fun e => n1 (e ▸ List.mem_of_getElem? h)
    rw [List.idxOf_cons, idx_at n2 h, show (y == x) = false from beq_eq_false_iff_ne.mpr e]
    rfl
/-- parents that come earlier in an order of the fields -/
theorem acy_of {ps : List (Option Nat)} {ts : List Nat} (nd : ts.Nodup) (hl : ts.length = ps.length) (hm : ∀ t ∈ ts, t < ps.length) (h : ∀ i p : Nat, par ps i = some p → ∃ a b : Nat, a < b ∧ ts[a]? = some p ∧ ts[b]? = some i) : Acy ps := by
  have full : ∀ i, i < ps.length → i ∈ ts := fun i hi => Classical.byContradiction fun no => by
    have nd' : (i :: ts).Nodup := List.nodup_cons.mpr ⟨no, nd⟩
    have := nodup_small ps.length ((i :: ts).map fun (x : Nat) => (x : Int)) (by
      have inj : ∀ l : List Nat, l.Nodup → (l.map fun (x : Nat) => (x : Int)).Nodup := fun l => by
        induction l with
        | nil => intro _; exact List.nodup_nil
        | cons x l ih =>
          intro n
          obtain ⟨n1, n2⟩ := List.nodup_cons.mp n
          rw [List.map_cons]
          refine List.nodup_cons.mpr ⟨fun z => n1 ?_, ih n2⟩
          obtain ⟨y, hy, e⟩ := List.mem_map.mp z
          have : y = x := by omega
          exact this ▸ hy
      exact inj _ nd') (fun z hz => by
        obtain ⟨y, hy, e⟩ := List.mem_map.mp hz
        have : y < ps.length := by
          rcases List.mem_cons.mp hy with q | q
          · rw [q]; exact hi
          · exact hm y q
        omega)
    rw [List.length_map, List.length_cons] at this
    omega
  refine ⟨fun {i p} e => ?_, fun i => ts.idxOf i, fun i hi => by rw [← hl]; exact List.idxOf_lt_length_of_mem (full i hi), fun {i p} e => ?_⟩
  · obtain ⟨a, b, _, h1, _⟩ := h i p e
    exact hm p (List.mem_of_getElem? h1)
  · obtain ⟨a, b, h0, h1, h2⟩ := h i p e
    show ts.idxOf p < ts.idxOf i
    rw [idx_at nd h1, idx_at nd h2]
    exact h0
theorem inV_par (i : Nat) (ps : List (Option Nat)) : inV (.int (i : Int)) (ps.map pV) = decide (some i ∈ ps) := by
  unfold inV
  rw [List.any_map]
  induction ps with
  | nil => rfl
  | cons a l ih =>
    rw [List.any_cons, ih]
    cases a with
    | none => simp [Function.comp, pV, eqV]
    | some p =>
      by_cases e : p = i
      · subst e; simp [Function.comp, pV, eqV]
      · have e1 : ¬ (p : Int) = (i : Int) := by omega
        have e2 : ¬ i = p := fun z => e z.symm
        simp [Function.comp, pV, eqV, e1, e2]
theorem flat_par (ps : List (Option Nat)) : (ps.map pV).all flatV = true := by
  rw [List.all_map]
  refine List.all_eq_true.mpr fun x _ => ?_
  cases x <;> rfl
theorem inV_nats (i : Nat) (l : List Nat) : inV (.int (i : Int)) (l.map nV) = decide (i ∈ l) := by
  have : l.map nV = (l.map fun (x : Nat) => (x : Int)).map V.int := by rw [List.map_map]; rfl
  rw [this, inV_int]
  have : ((i : Int) ∈ l.map fun (x : Nat) => (x : Int)) ↔ i ∈ l := by
    rw [List.mem_map]
    constructor
    · rintro ⟨y, hy, e⟩
      have : y = i := by omega
      exact this ▸ hy
    · exact fun h => ⟨i, h, rfl⟩
  simp [this]
theorem flat_nats (l : List Nat) : (l.map nV).all flatV = true := by
  rw [List.all_map]; exact List.all_eq_true.mpr fun _ _ => rfl
theorem flat_strs (l : List Str) : (l.map V.str).all flatV = true := by
  rw [List.all_map]; exact List.all_eq_true.mpr fun _ _ => rfl
theorem inV_strs (x : Str) (l : List Str) : inV (.str x) (l.map V.str) = decide (x ∈ l) := by
  unfold inV
  rw [List.any_map]
  induction l with
  | nil => rfl
  | cons a l ih =>
    rw [List.any_cons, ih]
    simp only [Function.comp, eqV, List.mem_cons]
    by_cases e : a = x
    · subst e; simp
    · have e2 : ¬ x = a := fun z => e z.symm
      simp [e, e2]
theorem ix_sq {K : PySem.W.Frag} {a : Addr} {xs : List V} {i : Int} {v : V} {H : Hp} {Q : VK} (h : SqX K H a xs) (e : atI xs i = some v) (q : Q v H) : rIx K (.ref a) (.int i) H Q := by
  rcases h with h | h
  · exact .inl ⟨a, xs, i, v, rfl, rfl, h, e, q⟩
  · exact .inr (.inl ⟨a, xs, i, v, rfl, rfl, h, e, q⟩)
/-- a list or a tuple of the heap -/
def SqH (H : Hp) (a : Addr) (xs : List V) : Prop := H a = some (.lst xs) ∨ H a = some (.tup xs)
theorem SqH.x {K : PySem.W.Frag} {H : Hp} {a : Addr} {xs : List V} (h : SqH H a xs) : SqX K H a xs := h.imp (fun h => SqL.of h) (fun h => SqT.of h)
theorem SqH.same {H H' : Hp} {a : Addr} {xs : List V} (g : Same H H') (h : SqH H a xs) : SqH H' a xs := h.imp (g _ _) (g _ _)
/-- tuple(xs) of a list or a tuple -/
def rTupS : List V → Hp → VK → Prop := fun vs H Q => ∃ p ys, vs = [.ref p] ∧ SqH H p ys ∧ ∀ (q : Addr) (H' : Hp), Same H H' → H' q = some (.tup ys) → Q (.ref q) H'
theorem call_tupS {X : Cx} : CallR X (.type "tuple") rTupS := by
  intro pins s σ H vs us Q I rv h
  obtain ⟨p, ys, e, hs, q⟩ := h
  refine call_tuple_of pins s σ H vs us Q I rv ⟨p, ys, e, ?_⟩
  rcases hs with hs | hs
  · exact .inl ⟨SqL.of hs, fun l nl => q l _ (same_new nl _) upd_same⟩
  · exact .inr ⟨SqT.of hs, q p _ (Same.refl _) hs⟩
/-- a + b of two tuples -/
def rCatS : V → V → Hp → VK → Prop := fun x y H Q => ∃ (a b : Addr) (xs ys : List V), x = .ref a ∧ y = .ref b ∧ H a = some (.tup xs) ∧ H b = some (.tup ys) ∧ xs.length + ys.length ≤ 100000 ∧
  ∀ (z : Addr) (H' : Hp), Same H H' → H' z = some (.tup (xs ++ ys)) → Q (.ref z) H'
theorem op_catS {X : Cx} : OpR X (binaryOp .Add) rCatS := by
  intro pins s σ H x y u v Q I rx ry h
  obtain ⟨a, b, xs, ys, rfl, rfl, ha, hb, hz, q⟩ := h
  refine op_catA pins s σ H _ _ u v Q I rx ry ⟨a, b, xs, ys, rfl, rfl, SqT.of ha, SqT.of hb, small hz, fun e => ?_, fun _ e => ?_, fun _ _ p n => ?_⟩
  · exact q b H (Same.refl _) (by rw [e]; exact hb)
  · exact q a H (Same.refl _) (by rw [e, List.append_nil]; exact ha)
  · exact q p _ (same_new n _) upd_same
/-- [x for x in range(n) if ..] -/
theorem lc_filter {σ : L2.St} {H : Hp} {Q : VK} {wi : TI} {tt : TT} {n i : Nat} (f : Nat → Bool) (hn : n ≤ 50000) (hw : ∀ R : It → Hp → Prop, R (Itr 0 ((n : Nat) : Int).toNat) H → wi σ H R)
    (w1 : ∀ u : V, ((wipe σ [i]).set i (some u))[i]? = some (some u)) (w3 : ∀ u : V, wipe ((wipe σ [i]).set i (some u)) [i] = wipe σ [i])
    (ht : ∀ (k : Nat) (H' : Hp) (R : Bool → Hp → Prop), k < n → Same H H' → (∀ H'', Same H' H'' → R (f k) H'') → tt ((wipe σ [i]).set i (some (nV k))) H' R)
    (q : ∀ (D : Addr) (H' : Hp), Same H H' → H' D = some (.lst (((List.range n).filter f).map nV)) → Q (.ref D) H') : tLc wi (gName i) tt (tVar i) [i] σ H Q := by
  refine hw _ fun D nD => ?_
  refine lc_range (lo := 0) (n := ((n : Nat) : Int).toNat) (fun k H' => H' D = some (.lst (((List.range k).filter f).map nV)) ∧ Same H H') ⟨upd_same, same_new nD _⟩ ?_ ?_
  · rintro k H1 hk ⟨e1, g1⟩
    have hk : k < n := hk
    rw [Int.zero_add]
    refine ⟨w3 _, ?_⟩
    refine ht k H1 _ hk g1 fun H2 g2 => ?_
    have ln : (((List.range k).filter f).map nV).length ≤ k := by
      have := List.length_filter_le f (List.range k)
      rw [List.length_range] at this
      rw [List.length_map]; exact this
    have er : (List.range (k + 1)).filter f = (List.range k).filter f ++ [k].filter f := by rw [List.range_succ, List.filter_append]
    cases e : f k with
    | true =>
      refine iteT ?_
      refine ⟨_, w1 _, _, g2 _ _ e1, smallLt (by omega), ?_, (g1.trans g2).later nD⟩
      rw [upd_same, er, List.filter_cons_of_pos e, List.map_append]
      rfl
    | false =>
      refine iteF ?_
      refine ⟨?_, g1.trans g2⟩
      rw [g2 _ _ e1, er, List.filter_cons_of_neg (by simp [e]), List.filter_nil, List.append_nil]
  · rintro H1 ⟨e1, g1⟩
    exact q D H1 g1 e1
theorem lc_filter_set {u : TS} {D0 : Ends} {σ : L2.St} {H : Hp} {wi : TI} {tt : TT} {n i j : Nat} (f : Nat → Bool) (hn : n ≤ 50000) (hw : ∀ R : It → Hp → Prop, R (Itr 0 ((n : Nat) : Int).toNat) H → wi σ H R)
    (w1 : ∀ u : V, ((wipe σ [i]).set i (some u))[i]? = some (some u)) (w3 : ∀ u : V, wipe ((wipe σ [i]).set i (some u)) [i] = wipe σ [i])
    (ht : ∀ (k : Nat) (H' : Hp) (R : Bool → Hp → Prop), k < n → Same H H' → (∀ H'', Same H' H'' → R (f k) H'') → tt ((wipe σ [i]).set i (some (nV k))) H' R)
    (q : ∀ (D : Addr) (H' : Hp), Same H H' → H' D = some (.lst (((List.range n).filter f).map nV)) → u D0 (σ.set j (some (.ref D))) H') : tSeq (tAsg (tLc wi (gName i) tt (tVar i) [i]) (gName j)) u D0 σ H :=
  lc_filter (Q := fun x H' => u D0 (σ.set j (some x)) H') f hn hw w1 w3 ht q
/-- a forest: parents and kinds -/
structure Fo where
  ps : List (Option Nat)
  ks : List Str
structure Fo.Ok (φ : Fo) : Prop where
  len : φ.ks.length = φ.ps.length
  pos : 1 ≤ φ.ps.length
  most : φ.ps.length ≤ 16
  acy : Acy φ.ps
  four : ∀ k ∈ φ.ks, k = "up" ∨ k = "down" ∨ k = "first" ∨ k = "last"
  leaf : ∀ (i : Nat) (k : Str), φ.ks[i]? = some k → k ≠ "up" → k ≠ "down" → some i ∉ φ.ps
def FoAt (C : Addr) (H : Hp) (a : Addr) (φ : Fo) : Prop := ∃ dx pt kt, H a = some (.ins C dx [("fields", .int (φ.ps.length : Int)), ("parents", .ref pt), ("kinds", .ref kt)]) ∧ H pt = some (.tup (φ.ps.map pV)) ∧ H kt = some (.tup (φ.ks.map V.str))
theorem FoAt.same {C : Addr} {H H' : Hp} {a : Addr} {φ : Fo} (g : Same H H') (h : FoAt C H a φ) : FoAt C H' a φ := by
  obtain ⟨dx, pt, kt, h1, h2, h3⟩ := h
  exact ⟨dx, pt, kt, g _ _ h1, g _ _ h2, g _ _ h3⟩
theorem FoAt.but {C : Addr} {H H' : Hp} {a t : Addr} {φ : Fo} {l : List V} (g : But t H H') (ht : H t = some (.lst l)) (h : FoAt C H a φ) : FoAt C H' a φ := by
  obtain ⟨dx, pt, kt, h1, h2, h3⟩ := h
  exact ⟨dx, pt, kt, g _ _ (ne_of h1 ht (by intro z; cases z)) h1, g.tup ht h2, g.tup ht h3⟩
end My

set_option Elab.async false
set_option linter.all false
set_option maxRecDepth 100000
/-! My errors: own classes over an own class over ValueError, with an __init__ that calls the base's by its name; defs that may raise, by name. -/
namespace My
open PySem PySem.Spec PyProof.Rows L2

/-! ### Base.__init__(self, text), Base an own class over ValueError without its own __init__ -/
structure FExc (K : PySem.W.Frag) (mg : Str → Option Value) (x : Str) (C0 : Addr) : Prop where
  g : mg x = some (.ref C0)
  rd : PySem.W.readsIn K C0 (.type "type") = true
  ga : PySem.W.specialIn K (.ref C0) "__getattribute__" = some (some (.builtin "type.__getattribute__"))
  vV : PySem.W.findCls K (.ref C0) (.type "type") "__init__" = some (.val (.builtin "ValueError.__init__"))
section
variable {X : Cx} {e : Expr} {es : List Expr} {ta : TA} {te : TE} {x : Str} {p1 p2 pos : Pos} {C0 : Addr}
theorem pe_ownInit {pl : Sem Bool} (T : FExc X.K X.mg x C0) (hg : Gl X x) (ha : PA X (e :: es) ta) (hdb : (x == ("__debug__" : Str)) = false := by decide)
    (hc : eval (.Call (.Attribute (.Name x p1) "__init__" p2) (e :: es) [] pos) X.env = (do
      let ov ← eval (.Name x p1) X.env
      standAt p2.atName
      let (f, first) ← holding [ov] (getMethod ov "__init__" pl)
      callWith pos f first (backTo pos (starEach (e :: es) X.env)) (backToKw pos (keywordEach [] X.env))) := by rfl)
    (he : starEach (e :: es) X.env = (false, eval e X.env) :: starEach es X.env := by rfl) (hpl : (backTo pos (starEach es X.env)).any (·.1) = false := by rfl) :
    PE X (.Call (.Attribute (.Name x p1) "__init__" p2) (e :: es) [] pos) (tVeI X.K ta) := by
  refine ⟨fun pins s σ H Q I h => ?_⟩
  refine PySem.W.methodCall_KW (ld_glob I hg T.g ?_ hdb) hc
  refine PySem.W.method_cls I.kIn T.ga (PySem.W.cls_value I.kIn T.rd T.vV (by decide +kernel) ?_)
  show wpAny _ _ (callWith pos (Value.builtin "ValueError.__init__") [] (backTo pos (starEach (e :: es) X.env)) []) _ _ _
  refine PyProof.Rows.callWith_method1 (thn (ha.run pos pins _ σ H _ (I.tok _) h) fun us s1 ⟨vs, H1, I1, r1, a, C, ws, ev, hl, T, ea, q⟩ => ?_) he hpl
  subst ev
  cases r1 with
  | @cons _ u0 _ ur ra rw' =>
    obtain rfl : u0 = Value.ref a := ra
    have hlen : ur.length ≤ sizeLine := by
      rw [← Paired.length rw', sizeLine_eq]
      omega
    exact oinit_ok T I1 ea hlen fun s' J => ⟨.non, H1, J, rfl, q⟩
/-- {x} of None, a text or a number: some text -/
def FmtOk : V → Prop
  | .non => True
  | .int i => i.natAbs.log2 < 1920
  | .str y => y.length ≤ 2000
  | _ => False
def tFmtO (te : TE) : TE := fun σ H Q => te σ H fun x H1 => FmtOk x ∧ ∀ y : Str, y.length ≤ 2000 → Q (.str y) H1
theorem pe_fmtO (he : PE X e te) : PE X (.FormattedValue e (-1) none pos) (tFmtO te) := by
  refine ⟨fun pins s σ H Q I h => ?_⟩
  refine wpAny_FormattedValue_plain (thn (he.run pins s σ H _ I h) fun v s1 hv => ?_)
  obtain ⟨x, H1, I1, r1, ok, q⟩ := hv
  match x, ok with
  | .non, _ =>
    obtain rfl : v = .none := r1
    exact wpAny_formatField_none ⟨.str "None", H1, I1.tok _, ⟨_, rfl⟩, q _ (by decide +kernel)⟩
  | .int i, hz =>
    obtain ⟨t, rfl⟩ := r1
    exact wpAny_formatField_int hz ⟨.str (toString i), H1, I1.tok _, ⟨_, rfl⟩, q _ (by have := PyProof.Rows.int_text_len_1921 hz; omega)⟩
  | .str y, hz =>
    obtain ⟨t, rfl⟩ := r1
    exact wpAny_formatField_str ⟨.str y, H1, I1, ⟨t, rfl⟩, q _ hz⟩ ⟨.str y, H1, I1.tok _, ⟨_, rfl⟩, q _ hz⟩ (by have := sizeLine_eq; have hz : y.length ≤ 2000 := hz; omega)
end

/-! ### error classes and their making, by name -/
structure DfE (K : PySem.W.Frag) (mg : Str → Option Value) (x : Str) (C : Addr) (qual : Str) (st : Stmt) (ps : List Str) : Prop where
  ex : ∃ (f : Addr) (fd : FuncData), Fun K "__init__" qual st f fd ∧ Binds K fd ps [] ∧ PySem.W.findIn K (.ref C) "__init__" = some (some (.ref f)) ∧ PySem.W.typeIn K (.ref f) = some (.type "function") ∧ OexC K C ∧ mg x = some (.ref C)
structure DnE (P : Program) (w : World) (K : PySem.W.Frag) (mg : Str → Option Value) (base : Heap) (k : Nat) (x : Str) (C : Addr) (sp : Sp) : Prop where
  ex : ∃ (f : Addr) (fd : FuncData) (ps : List Str), FnOk P w K mg base CX0 k f fd ps sp ∧ Binds K fd ps [] ∧ PySem.W.findIn K (.ref C) "__init__" = some (some (.ref f)) ∧ PySem.W.typeIn K (.ref f) = some (.type "function") ∧ OexC K C ∧ mg x = some (.ref C)
/-- a def that may raise -/
structure DnX (P : Program) (w : World) (K : PySem.W.Frag) (mg : Str → Option Value) (base : Heap) (k : Nat) (x : Str) (sp : Sp) : Prop where
  ex : ∃ (f : Addr) (fd : FuncData) (ps : List Str), FnOk P w K mg base (L2.CX P w) k f fd ps sp ∧ mg x = some (.ref f) ∧ PySem.W.keepIn K (.ref f) = true ∧ Binds K fd ps []
structure DnIX (P : Program) (w : World) (K : PySem.W.Frag) (mg : Str → Option Value) (base : Heap) (k : Nat) (x : Str) (C : Addr) (sp : Sp) : Prop where
  ex : ∃ (f : Addr) (fd : FuncData) (ps : List Str), FnOk P w K mg base (L2.CX P w) k f fd ps sp ∧ Mk K C f ∧ mg x = some (.ref C) ∧ Binds K fd ps []
structure DnMX (P : Program) (w : World) (K : PySem.W.Frag) (mg : Str → Option Value) (base : Heap) (k : Nat) (C : Addr) (m : Str) (sp : Sp) : Prop where
  ex : ∃ (f : Addr) (fd : FuncData) (ps : List Str), FnOk P w K mg base (L2.CX P w) k f fd ps sp ∧ Meth K C m f ∧ Binds K fd ps []
section
variable {P : Program} {w : World} {K : PySem.W.Frag} {mg : Str → Option Value} {base : Heap} {C : Addr} {m qual x : Str} {st : Stmt} {N ps : List Str} {k : Nat} {sp : Sp}
theorem DfE.ok (F : DfE K mg x C qual st ps) (S : FnScope N ps (defScope st)) (len : ∀ vs H Q E, sp vs H Q E → vs.length = ps.length)
    (body : ∀ (f : Addr) (cdv : Value) (A : Around) (outer : List Env) (s : Shared) (H : Hp) (vs : List V) (Q : VK) (E : XK),
      Room k (A.deeper (envOfC qual (defScope st) s.heap.objs.size f cdv)) → sp vs H Q E →
      ∃ t, PSs (cxOf CX0 P w K mg base N qual (defScope st) f cdv A outer s H E).nox (defBody st) t ∧
        t { nx := fun _ H' => Q .non H', rt := Q } (start N vs) H) : DnE P w K mg base (k + 1) x C sp := by
  obtain ⟨f, fd, F, b, m⟩ := F.ex
  exact ⟨f, fd, ps, F.ok S len (body f), b, m⟩
theorem Df.okX (F : Df K mg x st ps) (S : FnScope N ps (defScope st)) (len : ∀ vs H Q E, sp vs H Q E → vs.length = ps.length)
    (body : ∀ (f : Addr) (cdv : Value) (A : Around) (outer : List Env) (s : Shared) (H : Hp) (vs : List V) (Q : VK) (E : XK),
      Room k (A.deeper (envOfC x (defScope st) s.heap.objs.size f cdv)) → sp vs H Q E →
      ∃ t, PSs (cxOf (L2.CX P w) P w K mg base N x (defScope st) f cdv A outer s H E) (defBody st) t ∧
        t { nx := fun _ H' => Q .non H', rt := Q } (start N vs) H) : DnX P w K mg base (k + 1) x sp := by
  obtain ⟨f, fd, F, b, m⟩ := F.ex
  exact ⟨f, fd, ps, F.okX S len (body f), m, F.kp, b⟩
theorem DfI.okX (F : DfI K mg x C qual st ps) (S : FnScope N ps (defScope st)) (len : ∀ vs H Q E, sp vs H Q E → vs.length = ps.length)
    (body : ∀ (f : Addr) (cdv : Value) (A : Around) (outer : List Env) (s : Shared) (H : Hp) (vs : List V) (Q : VK) (E : XK),
      Room k (A.deeper (envOfC qual (defScope st) s.heap.objs.size f cdv)) → sp vs H Q E →
      ∃ t, PSs (cxOf (L2.CX P w) P w K mg base N qual (defScope st) f cdv A outer s H E) (defBody st) t ∧
        t { nx := fun _ H' => Q .non H', rt := Q } (start N vs) H) : DnIX P w K mg base (k + 1) x C sp := by
  obtain ⟨f, fd, F, b, m, g⟩ := F.ex
  exact ⟨f, fd, ps, F.okX S len (body f), m, g, b⟩
theorem DfM.okX (F : DfM K C m qual st ps) (S : FnScope N ps (defScope st)) (len : ∀ vs H Q E, sp vs H Q E → vs.length = ps.length)
    (body : ∀ (f : Addr) (cdv : Value) (A : Around) (outer : List Env) (s : Shared) (H : Hp) (vs : List V) (Q : VK) (E : XK),
      Room k (A.deeper (envOfC qual (defScope st) s.heap.objs.size f cdv)) → sp vs H Q E →
      ∃ t, PSs (cxOf (L2.CX P w) P w K mg base N qual (defScope st) f cdv A outer s H E) (defBody st) t ∧
        t { nx := fun _ H' => Q .non H', rt := Q } (start N vs) H) : DnMX P w K mg base (k + 1) C m sp := by
  obtain ⟨f, fd, F, b, m⟩ := F.ex
  exact ⟨f, fd, ps, F.okX S len (body f), m, b⟩
theorem DnX.imp {sp' : Sp} (D : DnX P w K mg base k x sp) (h : ∀ vs H Q E, sp' vs H Q E → sp vs H Q E) : DnX P w K mg base k x sp' := by
  obtain ⟨f, fd, ps, F, m, q, b⟩ := D.ex
  exact ⟨f, fd, ps, F.imp h, m, q, b⟩
end
/-- arguments, what is wanted of them weakened -/
def tMono (t : TA) : TA := fun σ H R => ∃ R0 : List V → Hp → Prop, t σ H R0 ∧ ∀ vs H1, R0 vs H1 → R vs H1
theorem pa_mono {X : Cx} {es : List Expr} {t : TA} (ha : PA X es t) : PA X es (tMono t) := by
  refine ⟨fun pos pins s σ H R I h => ?_⟩
  obtain ⟨R0, h0, imp⟩ := h
  exact thn (ha.run pos pins s σ H R0 I h0) fun us s1 ⟨vs, H1, I1, r1, q⟩ => ⟨vs, H1, I1, r1, imp _ _ q⟩
/-- an error's making, one field: BadX(v) -/
def spErr1 (ok : V → Prop) (nm : Str) (C : Addr) : Sp := fun vs H Q _ => ∃ (a : Addr) (v : V), vs = [.ref a, v] ∧ H a = some (exo a C none) ∧ ok v ∧
  ∀ dx, H dx = none → dx ≠ a → Q .non (upd (upd H dx (exd dx [(nm, v)])) a (exo a C (some dx)))
/-- raise X(e), X with one field -/
def tRaise1 (ok : V → Prop) (C : Addr) (nm : Str) (W : WX) (ta : TA) : TS := fun _ σ H => ta σ H fun vs H1 => ∃ v, vs = [v] ∧ ok v ∧ ∀ (d : Addr) (H' : Hp), Same H1 H' → H1 d = none → H' d = some (.xd [(nm, v)]) → W (.ref C) (some d) σ H'
section
variable {X : Cx} {W : WX} {k : Nat} {x m nm : Str} {C : Addr} {sp : Sp} {o e : Expr} {es : List Expr} {ta : TE} {t : TA} {p pos pos' apos : Pos}
theorem ps_raise1 {okf : V → Prop} (hc : X.calm = true) (tk : Takes X W) (D : DnE X.prog X.w X.K X.mg X.base k x C (spErr1 okf nm C)) (hr : Room (k + 1) X.A) (hg : Gl X x) (ha : PA X (e :: es) t)
    (hdb : (x == ("__debug__" : Str)) = false := by decide) (he : starEach (e :: es) X.env = (false, eval e X.env) :: starEach es X.env := by rfl) (hpl : (backTo pos (starEach es X.env)).any (·.1) = false := by rfl) :
    PS X (.Raise (some (.Call (.Name x p) (e :: es) [] pos)) none pos') (tRaise1 okf C nm W t) := by
  obtain ⟨f, fd, ps, F, b, iC, tI, T, g⟩ := D.ex
  have R := ps_raise (pos := pos') hc tk (pmk_oex (pos := pos) (p := p) T iC tI F hr b .nil pass0 hg g (pa_mono ha) hdb he hpl)
  refine ⟨fun pins s σ H D' I h => R.run pins s σ H D' I ⟨_, h, fun vs H1 q => ?_⟩⟩
  obtain ⟨v, rfl, ok, q⟩ := q
  refine ⟨by show 1 ≤ 1000; decide, fun a na => ?_⟩
  refine ⟨a, v, rfl, upd_same, ok, fun dx nx ne => ⟨rfl, dx, [(nm, v)], upd_same, ?_, ?_, ?_⟩⟩
  · rw [upd_ne ne]; exact upd_same
  · rw [upd_ne ne] at nx; exact nx
  · rw [upd_ne ne] at nx
    refine q dx _ (fun b o hb => ?_) nx upd_same
    have b1 : b ≠ a := ne_of_none hb na
    have b2 : b ≠ dx := ne_of_none hb nx
    rw [upd_ne b2, del_ne b1, upd_ne b1, upd_ne b2, upd_ne b1]
    exact hb
/-- f(e, ..), f may raise -/
theorem pe_callX (D : DnX X.prog X.w X.K X.mg X.base k x sp) (hr : Room k X.A) (hg : Gl X x) (tk : Takes X W) (ha : PA X (e :: es) t) (hdb : (x == ("__debug__" : Str)) = false := by decide)
    (he : starEach (e :: es) X.env = (false, eval e X.env) :: starEach es X.env := by rfl) (hpl : (backTo pos (starEach es X.env)).any (·.1) = false := by rfl) :
    PE X (.Call (.Name x p) (e :: es) [] pos) (tCallS sp (WE W) t) := by
  obtain ⟨f, fd, ps, F, m, q, b⟩ := D.ex
  exact pe_callS F hr hg m q b (fun σ => passAt tk σ) ha hdb he hpl
/-- C(e, ..), C's __init__ may raise -/
def tMakeS (C : Addr) (sp : Sp) (E : L2.St → XK) (t : TA) : TE := fun σ H Q => t σ H fun vs H1 => ∀ x dx, H1 x = none → H1 dx = none → dx ≠ x →
  sp (.ref x :: vs) (upd (upd H1 dx (.own x)) x (.ins C dx [])) (fun v H2 => v = .non ∧ Q (.ref x) H2) (E σ)
theorem pe_makeX (D : DnIX X.prog X.w X.K X.mg X.base k x C sp) (hr : Room (k + 1) X.A) (hg : Gl X x) (tk : Takes X W) (ha : PA X (e :: es) t) (hdb : (x == ("__debug__" : Str)) = false := by decide)
    (he : starEach (e :: es) X.env = (false, eval e X.env) :: starEach es X.env := by rfl) (hpl : (backTo pos (starEach es X.env)).any (·.1) = false := by rfl) :
    PE X (.Call (.Name x p) (e :: es) [] pos) (tMakeS C sp (WE W) t) := by
  obtain ⟨f, fd, ps, F, M, g, b⟩ := D.ex
  refine ⟨fun pins s σ H Q I h => ?_⟩
  refine wpAny_Call_Name_kw (ld_glob I hg g ?_ hdb)
  refine PySem.W.callWith_K (h₀ := X.base) I.ok.mod.kin M.kp (thn (ha.run pos pins s σ H _ I h) fun us s1 ⟨vs, H1, I1, r, q⟩ => ⟨I1.kIn, ?_⟩) he hpl
  have hq := q (s1.heap.objs.size + 1) s1.heap.objs.size (I1.hok.fresh (Nat.le_succ _)) (I1.hok.fresh (Nat.le_refl _)) (Nat.ne_of_lt (Nat.lt_succ_self _))
  have I2 := Inv.made (C := C) I1
  have r2 : Vals (V.ref (s1.heap.objs.size + 1) :: vs) (Value.ref (s1.heap.objs.size + 1) :: us) := .cons rfl r
  have hl : (Value.ref (s1.heap.objs.size + 1) :: us).length = ps.length := by
    have e := r2.length
    rw [F.len _ _ _ _ hq] at e
    exact e.symm
  have b2 := b _ (Value.ref (s1.heap.objs.size + 1) :: us) I2.kIn (by rw [List.append_nil]; exact hl)
  rw [List.append_nil] at b2
  refine wpAny_call (make_map (f := f) I1.kIn M.makes M.init (beq_iff_eq.mp M.fn) (codeAny_mono (F.run _ X.stack _ _ ⟨Value.ref (s1.heap.objs.size + 1) :: us, []⟩ (Value.ref (s1.heap.objs.size + 1) :: us) _ _ (WE W σ) (hr.make C us [])
    (I2.env0.make C us []) b2 r2 hq) fun r s' hq' => ?_))
  cases r with
  | error e => exact passAt tk σ pins _ _ e s' I2 hq'
  | ok fl =>
    cases fl with
    | ret u =>
      obtain ⟨v, H', I3, rv, ev, q3⟩ := I2.after hq'
      subst ev
      exact ⟨rv, ⟨V.ref (s1.heap.objs.size + 1), H', I3, rfl, q3⟩⟩
    | next => exact False.elim hq'
    | brk => exact False.elim hq'
    | cont => exact False.elim hq'
end
/-! ### isinstance of a caught error with fields -/
theorem refs_of : ∀ {cs : List Addr} {its : List Value}, Vals (cs.map V.ref) its → its = cs.map Value.ref
  | [], _, .nil => rfl
  | c :: cs, _, .cons r1 r2 => by
    cases r1
    rw [refs_of r2]
    rfl
def rIsX (K : PySem.W.Frag) (D a : Addr) (cls : Value) (d : Option Addr) : List V → Hp → VK → Prop := fun xs H Q => ∃ (c : V) (b : Bool) (dd : Addr) (fs : List (Str × V)), xs = [.ref a, c] ∧ cls = .ref D ∧ d = some dd ∧ H dd = some (.xd fs) ∧
  ((∃ cv, (∀ u, RelV c u → u = cv) ∧ PySem.W.kitOne K (.ref D) cv = some b) ∨ ∃ (tp : Addr) (cs : List Addr), c = .ref tp ∧ H tp = some (.tup (cs.map V.ref)) ∧ PySem.W.kitAny K (.ref D) (cs.map Value.ref) = some b) ∧ Q (.bl b) H
theorem call_isX {X : Cx} {a D : Addr} {oe : Obj} {cls : Value} {d : Option Addr} {pn : List (Addr × Obj)} (C : ExcC X.K D) (hz : Zc cls d oe) (hf : ∃ vs, oe.data = .fields vs) : CallR (X.suite a ((a, oe) :: pn)) (.builtin "isinstance") (rIsX X.K D a cls d) := by
  intro pins s σ H xs us Q I r h
  obtain ⟨c, b, dd, fs, rfl, rfl, rfl, edd, hc, q⟩ := h
  have hcl : (PySem.W.clsIn X.K D).isSome = true := by
    have := C.hd
    obtain ⟨cd, h1, _⟩ := PySem.W.any_some this
    rw [h1]; rfl
  have Z := fun od => PySem.W.kitx_exc (x := a) (ox := oe) (od := od) hcl C.hg C.hk C.hs C.ha C.hn C.ht C.hm
  cases r with
  | cons rx rr =>
    cases rr with
    | cons rt rr =>
      cases rr
      cases rx
      obtain ⟨hget, _⟩ := I.pin (a, oe) (List.mem_append.mpr (.inl List.mem_cons_self))
      obtain ⟨vs, hv⟩ := hf
      have hx : ObjOk _ _ H s.heap dd (.xd fs) := I.hok dd _ edd
      obtain ⟨mA, hns, _⟩ := hx
      obtain ⟨od, ho, _⟩ := lookIn_ns hns
      have J : PySem.W.InstAt s.heap a oe D (some od) := ⟨hget, hz.1, by unfold PySem.W.notCls; rw [hv] <;> rfl, by rw [hz.2]; exact ho⟩
      rcases hc with ⟨cv, hcv, e⟩ | ⟨tp, cs, rfl, htp, e⟩
      · have ec := hcv _ rt
        subst ec
        exact PySem.W.kia_one (Z (some od)) I.kIn J e (fun z => nomatch z) fun tk => ⟨.bl b, H, I.kept (t' := tk) fun _ _ z => z, rfl, q⟩
      · cases rt
        obtain ⟨its, rv, p, hz⟩ := I.tuple (SqT.of htp)
        have p : s.heap.IsTuple tp its.toArray := p
        have ev : its = cs.map Value.ref := refs_of rv
        obtain ⟨o, ho1, ho2, n, ho3⟩ := p
        obtain ⟨oc, od', oda, osl⟩ := o
        dsimp only at ho2 ho3
        subst ho2 ho3
        subst ev
        exact PySem.W.kia_tup (Z (some od)) I.kIn J ho1 e (fun z => nomatch z) fun tk => ⟨.bl b, H, I.kept (t' := tk) fun _ _ z => z, rfl, q⟩
end My

set_option Elab.async false
set_option linter.all false
set_option maxRecDepth 100000
/-! My objects that are called: o(e, ..) by the class's own __call__. -/
namespace My
open PySem PySem.Spec PyProof.Rows L2
theorem inst_of {X : Cx} {pins : List (Addr × Obj)} {σ : L2.St} {H : Hp} {s : Shared} {a C dx : Addr} {fs : List (Str × V)} (I : Inv X pins σ H s) (e : H a = some (.ins C dx fs)) : ∃ od, PySem.W.InstAt s.heap a (PySem.W.instObj C dx) C od := by
  obtain ⟨mA, O, r, wi, _, ho⟩ := ins_get I.hok e
  obtain ⟨od, _, _, h1, _⟩ := O.ns
  exact ⟨some od, O.obj, rfl, rfl, h1⟩
theorem callWith_obj {K : PySem.W.Frag} {M : Model} {A : Around} {E : Value → Shared → Prop} {s : Shared} {pos : Pos} {x C : Addr} {Q : Value → Shared → Prop} {args : List (Bool × Sem Value)} (hplain : args.any (·.1) = false)
    (h : wpAny M A (evalArgs (.ref x) true args []) (fun a s₁ => (∃ ox od, ox.data = .plain ∧ PySem.W.kco_P K x C ox od s₁.heap) ∧ wpAny M A (call (.ref x) a.pos a.kw) Q E s₁) E s) : wpAny M A (callWith pos (.ref x) [] args []) Q E s := by
  unfold callWith
  refine wpAny_bind (wpAny_holding (wpAny_mono h (fun a s₁ h₁ => wpAny_bind (wpAny_standAt ?_)) fun _ _ y => y))
  obtain ⟨⟨ox, od, hd, h₂⟩, h₁⟩ := h₁
  have L := PySem.W.kco_keeper (M := M) h₂.2 hd
  simp only [hplain]
  refine wpAny_bind (L.here ?_)
  have tail : ∀ {t : Sem Value}, wpAny M A t Q E s₁ → wpAny M A (t >>= fun r => holding [r] point >>= fun _ => pure r) Q E s₁ :=
    fun ht => wpAny_bind (wpAny_mono ht (fun r s₂ hr => wpAny_bind (wpAny_holding (wpAny_point (wpAny_pure hr)))) fun _ _ y => y)
  exact tail (wpAny_operateT h₁)

/-- the class's __call__ -/
structure MCall (K : PySem.W.Frag) (C f : Addr) : Prop where
  at_ : PySem.W.findIn K (.ref C) "__call__" = some (some (.ref f))
  fn : PySem.W.isFn K (.ref f) = true
  fi : PySem.W.fnIn K f = true
structure DfO (K : PySem.W.Frag) (C : Addr) (qual : Str) (st : Stmt) (ps : List Str) : Prop where
  ex : ∃ (f : Addr) (fd : FuncData), Fun K "__call__" qual st f fd ∧ Binds K fd ps [] ∧ MCall K C f
/-- CX: what may leave it (CX0: nothing; L2.CX P w: errors) -/
structure DnO (CX : CXT) (P : Program) (w : World) (K : PySem.W.Frag) (mg : Str → Option Value) (base : Heap) (k : Nat) (C : Addr) (sp : Sp) : Prop where
  ex : ∃ (f : Addr) (fd : FuncData) (ps : List Str), FnOk P w K mg base CX k f fd ps sp ∧ MCall K C f ∧ Binds K fd ps []
section
variable {P : Program} {w : World} {K : PySem.W.Frag} {mg : Str → Option Value} {base : Heap} {C : Addr} {qual : Str} {st : Stmt} {N ps : List Str} {k : Nat} {sp : Sp}
theorem DfO.ok (F : DfO K C qual st ps) (S : FnScope N ps (defScope st)) (len : ∀ vs H Q E, sp vs H Q E → vs.length = ps.length)
    (body : ∀ (f : Addr) (cdv : Value) (A : Around) (outer : List Env) (s : Shared) (H : Hp) (vs : List V) (Q : VK) (E : XK),
      Room k (A.deeper (envOfC qual (defScope st) s.heap.objs.size f cdv)) → sp vs H Q E →
      ∃ t, PSs (cxOf CX0 P w K mg base N qual (defScope st) f cdv A outer s H E).nox (defBody st) t ∧
        t { nx := fun _ H' => Q .non H', rt := Q } (start N vs) H) : DnO CX0 P w K mg base (k + 1) C sp := by
  obtain ⟨f, fd, F, b, m⟩ := F.ex
  exact ⟨f, fd, ps, F.ok S len (body f), m, b⟩
theorem DfO.okX (F : DfO K C qual st ps) (S : FnScope N ps (defScope st)) (len : ∀ vs H Q E, sp vs H Q E → vs.length = ps.length)
    (body : ∀ (f : Addr) (cdv : Value) (A : Around) (outer : List Env) (s : Shared) (H : Hp) (vs : List V) (Q : VK) (E : XK),
      Room k (A.deeper (envOfC qual (defScope st) s.heap.objs.size f cdv)) → sp vs H Q E →
      ∃ t, PSs (cxOf (L2.CX P w) P w K mg base N qual (defScope st) f cdv A outer s H E) (defBody st) t ∧
        t { nx := fun _ H' => Q .non H', rt := Q } (start N vs) H) : DnO (L2.CX P w) P w K mg base (k + 1) C sp := by
  obtain ⟨f, fd, F, b, m⟩ := F.ex
  exact ⟨f, fd, ps, F.okX S len (body f), m, b⟩
end
/-- o(e, ..) -/
def tObj (C : Addr) (sp : Sp) (E : L2.St → XK) (ta : TE) (t : TA) : TE := fun σ H Q => ta σ H fun x H1 => ∃ a, x = .ref a ∧ t σ H1 fun vs H2 => (∃ dx fs, H2 a = some (.ins C dx fs)) ∧ sp (.ref a :: vs) H2 Q (E σ)
section
variable {X : Cx} {CX : CXT} {k : Nat} {x : Str} {C : Addr} {sp : Sp} {E : L2.St → XK} {e : Expr} {es : List Expr} {ta : TE} {t : TA} {p pos : Pos}
theorem pe_objS (he : PE X (.Name x p) ta) (D : DnO CX X.prog X.w X.K X.mg X.base k C sp) (hr : Room k X.A) (hx : ∀ σ, PassesAt CX X σ (E σ)) (ha : PA X (e :: es) t)
    (hst : starEach (e :: es) X.env = (false, eval e X.env) :: starEach es X.env := by rfl) (hpl : (backTo pos (starEach es X.env)).any (·.1) = false := by rfl) :
    PE X (.Call (.Name x p) (e :: es) [] pos) (tObj C sp E ta t) := by
  obtain ⟨f, fd, ps, F, M, b⟩ := D.ex
  refine ⟨fun pins s σ H Q I h => ?_⟩
  refine wpAny_Call_Name_kw (thn (he.run pins s σ H _ I h) fun u s1 ⟨v, H1, I1, r1, a, ev, q⟩ => ?_)
  subst ev
  obtain rfl : u = Value.ref a := r1
  have hst' : (backTo pos (starEach (e :: es) X.env)).any (·.1) = false := by rw [hst]; show (false || (backTo pos (starEach es X.env)).any (·.1)) = false; rw [hpl]; rfl
  refine callWith_obj (K := X.K) (C := C) hst' ?_
  rw [hst]
  refine PySem.Calls.evalArgs_plain ?_
  have A1 := ha.run pos pins s1 σ H1 _ I1 q
  rw [hst] at A1
  refine thn A1 fun us s2 ⟨vs, H2, I2, r, ⟨dx, fs, ea⟩, q2⟩ => ?_
  obtain ⟨od, J⟩ := inst_of I2 ea
  refine ⟨⟨_, od, rfl, I2.kIn, J⟩, ?_⟩
  show wpAny _ _ (call (.ref a) us) _ _ _
  have rr : Vals (V.ref a :: vs) (Value.ref a :: us) := .cons rfl r
  have hl : (Value.ref a :: us).length = ps.length := by rw [← rr.length]; exact F.len _ _ _ _ q2
  have b2 := b s2 (Value.ref a :: us) I2.kIn (by rw [List.append_nil]; exact hl)
  rw [List.append_nil] at b2
  refine wpAny_call (PySem.W.kco_code (a := ⟨us, []⟩) I2.kIn J rfl M.at_ M.fn M.fi (codeAny_mono (F.run X.A X.stack s2 H2 ⟨Value.ref a :: us, []⟩ (Value.ref a :: us) (V.ref a :: vs) Q (E σ) hr I2.env0 b2 rr q2) fun r s' hq => ?_))
  cases r with
  | error e => exact hx σ pins H2 s2 e s' I2 hq
  | ok fl =>
    cases fl with
    | ret u => exact I2.after hq
    | next => exact False.elim hq
    | brk => exact False.elim hq
    | cont => exact False.elim hq
theorem pe_obj (he : PE X (.Name x p) ta) (D : DnO CX0 X.prog X.w X.K X.mg X.base k C sp) (hr : Room k X.A) (ha : PA X (e :: es) t)
    (hst : starEach (e :: es) X.env = (false, eval e X.env) :: starEach es X.env := by rfl) (hpl : (backTo pos (starEach es X.env)).any (·.1) = false := by rfl) :
    PE X (.Call (.Name x p) (e :: es) [] pos) (tObj C sp (fun _ => E0) ta t) := pe_objS he D hr (fun _ _ _ _ _ _ _ h => h.elim) ha hst hpl
theorem pe_objX {W : WX} (he : PE X (.Name x p) ta) (D : DnO (L2.CX X.prog X.w) X.prog X.w X.K X.mg X.base k C sp) (hr : Room k X.A) (tk : Takes X W) (ha : PA X (e :: es) t)
    (hst : starEach (e :: es) X.env = (false, eval e X.env) :: starEach es X.env := by rfl) (hpl : (backTo pos (starEach es X.env)).any (·.1) = false := by rfl) :
    PE X (.Call (.Name x p) (e :: es) [] pos) (tObj C sp (WE W) ta t) := pe_objS he D hr (fun σ => passAt tk σ) ha hst hpl
end
end My

set_option Elab.async false
set_option linter.all false
set_option maxRecDepth 100000
set_option maxHeartbeats 2000000
/-! My try with several clauses, each with its name: except X as n. -/
namespace My
open PySem PySem.Spec PyProof.Rows L2
theorem boot_ValueError : bootBuiltins "ValueError" = some (.type "ValueError") := by decide +kernel
/-- what the clauses wish of an error of the body, one behind the other; slot i is the clause's name's -/
def wAsM (K : PySem.W.Frag) (Wout : WX) (D : Ends) : List (Value × Nat × (Addr → Value → Option Addr → TS)) → WX
  | [] => Wout
  | (c, i, ts) :: r => fun cls d σ H => ∃ b, PySem.W.exmOne K cls c = some b ∧
      (b = true → ∀ a, H a = none → ts a cls d { nx := fun σ' H' => D.nx (σ'.set i none) H', rt := D.rt, bk := fun σ' H' => D.bk (σ'.set i none) H', ct := fun σ' H' => D.ct (σ'.set i none) H' } (σ.set i (some (.ref a))) H) ∧
      (b = false → wAsM K Wout D r cls d σ H)
inductive HdsAs (X : Cx) : List ExceptHandler → List (Value × Nat × (Addr → Value → Option Addr → TS)) → Prop
  | nil : HdsAs X [] []
  | cons {x n : Str} {c : Value} {i : Nat} {ts : Addr → Value → Option Addr → TS} {b₀ : Stmt} {suite : List Stmt} {np pos' : Pos} {hds : List ExceptHandler} {l : List (Value × Nat × (Addr → Value → Option Addr → TS))} (hc : Names X x c)
      (hi : X.N[i]? = some n) (hln : X.env.kindOf n = some .local)
      (hsu : ∀ (a : Addr) (oe : Obj) (cls : Value) (d : Option Addr) (pn : List (Addr × Obj)), Zc cls d oe → (∃ vs, oe.data = .fields vs) → PSs (X.suite a ((a, oe) :: pn)) (b₀ :: suite) (ts a cls d)) (r : HdsAs X hds l) :
      HdsAs X (.ExceptHandler (some (.Name x np)) (some n) (b₀ :: suite) pos' :: hds) ((c, i, ts) :: l)
section
variable {X : Cx} {body : List Stmt} {h₀ : ExceptHandler} {hds : List ExceptHandler} {l : List (Value × Nat × (Addr → Value → Option Addr → TS))} {pos : Pos} {tb : WX → TS} {Wout : WX}
theorem ps_try_asM (hs : X.stack = X.env :: X.outer) (hf : X.env.frame = some X.env.locals) (hN : X.N.Nodup) (tk : Takes X Wout)
    (hb : ∀ (W : WX) (pn : List (Addr × Obj)) (xe : Value → Shared → Prop), Takes (X.tr pn xe) W → PassesOwn (model X.prog X.w) X.A X.env xe → PSs (X.tr pn xe) body (tb W))
    (hh : HdsAs X (h₀ :: hds) l) : PS X (.Try body (h₀ :: hds) [] [] pos) (fun D σ H => tb (wAsM X.K Wout D l) D σ H) := by
  refine ⟨fun pins s σ H D I h => ?_⟩
  have ok := I.ok
  have hfr : X.A.frames = some (X.env :: X.outer) := by rw [ok.frames, hs]
  refine wpAny_Try_except ?_
  refine wpAny_mono ((hb (wAsM X.K Wout D l) (X.pn ++ pins) (fun e s₁ => wpAny (model X.prog X.w) X.A (noteFrame e X.env) (fun _ s₂ => wpAny (model X.prog X.w) X.A (setFlight e none) (fun _ s₃ =>
    wpAny (model X.prog X.w) X.A (handleBy e X.env (h₀ :: hds)) (SP X pins D) X.xe s₃) X.xe s₂) X.xe s₁) (fun u s' xx => ?_) PassesOwn.looking).run [] s σ H D (I.toTry _) h) (fun f s1 hsp => ?_) (fun e s1 he => he)
  · obtain ⟨a, B, sI, pins', σ', H', cls, d, rfl, J', nb, up, sky, na, os, ag, w⟩ := xx
    have J : Inv X pins σ' H' sI := J'.ofTry ok
    have sky' : Sky B (X.env :: X.outer) a (Zc cls d) X.env.locals s'.heap := by rw [← hs]; exact sky
    show wpAny (model X.prog X.w) X.A (noteFrame (.ref a) X.env) _ _ _
    refine Sky.land Zc.steady hfr hf sky' fun h3 fl3 up3 => ?_
    have J3 : Inv X pins σ' H' { s' with heap := h3 } := J.landed nb fl3.1 (up.trans up3) os ag
    obtain ⟨oe3, vs3, he3, hz3, hd3⟩ := fl3.there
    have nfr : a ∉ frs (X.env :: X.outer) := fun hm => by
      obtain ⟨_, o', e', hnf⟩ := fl3.2.2.1.mem hm
      rw [he3] at e'; cases e'
      exact hnf _ hd3
    have nL : a ≠ X.env.locals := fun z => nfr (List.mem_filterMap.mpr ⟨X.env, List.mem_cons_self, by rw [hf, z]⟩)
    have nF : a ∉ X.fs := fun hm => by
      obtain ⟨e, he, q⟩ := List.mem_filterMap.mp hm
      exact nfr (List.mem_filterMap.mpr ⟨e, List.mem_cons_of_mem _ he, q⟩)
    have S3 := J3.suite he3 hd3 na nL nF
    have go : ∀ {hds' : List ExceptHandler} {l' : List (Value × Nat × (Addr → Value → Option Addr → TS))}, HdsAs X hds' l' → wAsM X.K Wout D l' cls d σ' H' →
        wpAny (model X.prog X.w) X.A (handleBy (.ref a) X.env hds') (SP X pins D) X.xe { s' with heap := h3 } := by
      intro hds' l' hk
      induction hk with
      | nil =>
        intro w
        refine wpAny_handleBy_nil ?_
        obtain ⟨k1, k2, k3, oe, vs, T, oT, ts', he, hz, hd, h1, hr⟩ := id fl3
        unfold PySem.passOn
        refine wpAny_bind (wpAny_field he hd h1 ?_)
        rw [if_neg (show ¬ ((Value.ref T == Value.none) = true) from by simp)]
        have fin : wpAny (model X.prog X.w) X.A (setFlight (.ref a) X.env.frame) (fun _ s4 => wpAny (model X.prog X.w) X.A (throw (.ref a) : Sem Flow) (SP X pins D) X.xe s4) X.xe { s' with heap := h3 } := by
          rw [hf]
          refine HandSPX.setFlight_upZ fl3 fun h4 hh4 up4 => wpAny_throw (tk _ _ ?_)
          exact ⟨a, B, sI, pins, σ', H', cls, d, rfl, J, nb, (up.trans up3).trans up4, .inr (.inr (by rw [hs]; exact hh4)), na, os, ag, w⟩
        first
          | exact wpAny_bind (wpAny_pure (wpAny_bind fin))
          | exact wpAny_bind fin
      | @cons x n c i ts b₀ suite np pos' hds2 l2 hc hi hln hsu r ih =>
        intro w
        obtain ⟨b, hb1, hyes, hno⟩ := w
        have hloc : Loc X.env.scope n := .inl hln
        refine wpAny_handleBy_cons (codeAny_handlers_test ?_) (by intro q; cases q)
        have LT : PySem.W.Looks (model X.prog X.w) h3 (typeOf (.ref a)) cls := fun A Q E s k q => wpAny_typeOf_ref (k _ _ he3) (by rw [hz3.1]; exact q)
        have LM := PySem.W.exm_one (M := model X.prog X.w) (J3.kIn) LT hb1
        have test : ∀ {Q : Value → Shared → Prop} {E : Value → Shared → Prop}, Q c { s' with heap := h3 } → wpAny (model X.prog X.w) (X.A.mark (some (.ref a))) (eval (.Name x np) X.env) Q E { s' with heap := h3 } := fun {Q E} q => by
          obtain ⟨hg, hdbg, hm | ⟨hm, hv, hnn⟩⟩ := hc
          · exact ld_glob (X := X.suite a ((a, oe3) :: (X.pn ++ pins))) S3 hg hm q hdbg
          · exact ld_blt (X := X.suite a ((a, oe3) :: (X.pn ++ pins))) S3 hg hm hv q hnn hdbg
        refine test (LM.here ?_)
        cases b with
        | true =>
          refine codeAny_handlers_suite_as ?_
          refine HandSPX.lands_againZ fl3 fun h4 fl4 up4 => ?_
          have J4 : Inv X pins σ' H' { s' with heap := h4 } := J.landed nb fl4.1 ((up.trans up3).trans up4) os ag
          obtain ⟨oe4, vs4, he4, hz4, hd4⟩ := fl4.there
          have S4 := J4.suite he4 hd4 na nL nF
          refine store_ok (X := X.suite a ((a, oe4) :: (X.pn ++ pins))) (v := .ref a) S4 hN hi hloc rfl (fun s5 S5 => ?_) (.inr hln)
          refine wpAny_mono ((hsu a oe4 cls d (X.pn ++ pins) hz4 ⟨_, hd4⟩).run [] s5 _ H' _ S5 (hyes rfl a na)) (fun f s6 hsp => ?_) (fun _ _ z => False.elim z)
          have end_ : ∀ {σ6 : L2.St} {H6 : Hp} {Q : Shared → Prop}, Inv (X.suite a ((a, oe4) :: (X.pn ++ pins))) [] σ6 H6 s6 → (∀ s7, Inv X pins (σ6.set i none) H6 s7 → Q s7) →
              wpAny (model X.prog X.w) X.A (do bindName X.env n .none; unbindBehindTheSuite X.env n pos') (fun _ s7 => Q s7) X.xe s6 := fun {σ6 H6 Q} S6 hq => gone_ok (S6.unsuite ok) hN hi hln hq
          cases f with
          | next =>
            obtain ⟨σ6, H6, S6, q6⟩ := hsp
            exact end_ S6 fun s7 J7 => ⟨_, _, J7, q6⟩
          | brk =>
            obtain ⟨σ6, H6, S6, q6⟩ := hsp
            exact end_ S6 fun s7 J7 => ⟨_, _, J7, q6⟩
          | cont =>
            obtain ⟨σ6, H6, S6, q6⟩ := hsp
            exact end_ S6 fun s7 J7 => ⟨_, _, J7, q6⟩
          | ret u =>
            obtain ⟨v6, σ6, H6, S6, r6, q6⟩ := hsp
            exact end_ S6 fun s7 J7 => ⟨_, _, _, J7, r6, q6⟩
        | false =>
          show wpAny _ X.A (handleBy (.ref a) X.env hds2) _ _ _
          exact ih (hno rfl)
    exact go hh w
  · cases f with
    | next =>
      obtain ⟨σ', H', J', q⟩ := hsp
      exact wpAny_execs_nil ⟨σ', H', J'.ofTry ok, q⟩
    | brk =>
      obtain ⟨σ', H', J', q⟩ := hsp
      exact ⟨σ', H', J'.ofTry ok, q⟩
    | cont =>
      obtain ⟨σ', H', J', q⟩ := hsp
      exact ⟨σ', H', J'.ofTry ok, q⟩
    | ret u =>
      obtain ⟨v, σ', H', J', r, q⟩ := hsp
      exact ⟨v, σ', H', J'.ofTry ok, r, q⟩
end
end My

set_option Elab.async false
set_option linter.all false
set_option maxRecDepth 100000
/-! Values without a heap: what a name, an item, an attribute is worth; who owns a list, a dict, an object; how this lies in an abstract heap. -/
namespace VL
open PySem PySem.Spec PyProof.Rows L2

/-- fz: never changed again; ow: this def's own; io: a caller's own, lent for the call -/
inductive Fl | fz | ow | io deriving DecidableEq
inductive PV where
  | emp | non | bl (b : Bool) | int (i : Int) | str (x : Str)
  | tup (xs : List PV)
  | lst (o : Fl) (xs : List PV)
  | dK (o : Fl) (ks : List Key) (xs : List PV)
  | dT (o : Fl) (ks : List (List Key)) (xs : List PV)
  | obj (o : Fl) (c : String) (xs : List PV)
  | scr (ns : List Int)
  | ty (n : String)
  | cls (c : String)
  /-- a caught error, in a clause's slot; its own dict lies at d -/
  | err (d : Option Addr) (c : String) (xs : List PV)
namespace PV
def fl : PV → Fl
  | lst o _ | dK o _ _ | dT o _ _ | obj o _ _ => o
  | err _ _ _ => .io
  | _ => .fz
def setFl (o : Fl) : PV → PV
  | lst _ xs => lst o xs
  | dK _ ks xs => dK o ks xs
  | dT _ ks xs => dT o ks xs
  | obj _ c xs => obj o c xs
  | err _ _ _ => emp
  | a => a
def isErr : PV → Bool
  | err _ _ _ => true
  | _ => false
def own (a : PV) : Bool := match a.fl with
  | .fz => false
  | _ => true
def isIo (a : PV) : Bool := match a.fl with
  | .io => true
  | _ => false
/-- bears a cell of its own -/
def cell (a : PV) : Bool := a.own && !a.isErr
theorem cell_own {a : PV} (h : a.cell = true) : a.own = true := by unfold cell at h; simp only [Bool.and_eq_true] at h; exact h.1
theorem cell_no {a : PV} (h : a.own = false) : a.cell = false := by unfold cell; rw [h]; rfl
def isEmp : PV → Bool
  | emp => true
  | _ => false
end PV
/-- the classes of the program: where they stand, their attributes in order -/
structure Tb where
  K : PySem.W.Frag
  ca : String → Addr
  flds : String → List Str

/-- how an error's own dict lies -/
def XAt (T : Tb) (H : Hp) (c : String) (d : Option Addr) (vs : List V) : Prop :=
  match d with
  | none => vs = []
  | some p => H p = some (.xd ((T.flds c).zip vs)) ∧ vs.length ≤ (T.flds c).length
theorem XAt.mono {T : Tb} {F H : Hp} {c : String} {d : Option Addr} {vs : List V} (e : Same F H) (h : XAt T F c d vs) : XAt T H c d vs := by
  cases d with
  | none => exact h
  | some p => exact ⟨e _ _ h.1, h.2⟩
section
variable (T : Tb) (F : Hp)
mutual
def Rep : PV → V → Prop
  | .emp, _ => True
  | .non, v => v = .non
  | .bl b, v => v = .bl b
  | .int i, v => v = .int i
  | .str x, v => v = .str x
  | .tup xs, v => ∃ p vs, v = .ref p ∧ SqT T.K F p vs ∧ Reps xs vs
  | .lst _ xs, v => ∃ p vs, v = .ref p ∧ F p = some (.lst vs) ∧ Reps xs vs
  | .dK _ ks xs, v => ∃ p vs, v = .ref p ∧ F p = some (.dK (ks.zip vs)) ∧ ks.length = vs.length ∧ Reps xs vs
  | .dT _ ks xs, v => ∃ p vs, v = .ref p ∧ F p = some (.dT (ks.zip vs)) ∧ ks.length = vs.length ∧ Reps xs vs
  | .obj _ c xs, v => ∃ p dx vs, v = .ref p ∧ F p = some (.ins (T.ca c) dx ((T.flds c).zip vs)) ∧ vs.length ≤ (T.flds c).length ∧ Reps xs vs
  | .scr ns, v => ∃ p, v = .ref p ∧ SqL T.K F p (ns.map V.int)
  | .ty n, v => v = .ty n
  | .cls c, v => v = .ref (T.ca c)
  | .err d c xs, v => ∃ p vs, v = .ref p ∧ XAt T F c d vs ∧ Reps xs vs
def Reps : List PV → List V → Prop
  | [], vs => vs = []
  | x :: xs, vs => ∃ v vs', vs = v :: vs' ∧ (Rep x v ∧ x.own = false) ∧ Reps xs vs'
end
end
/-- the root in G, the items in F -/
def RepAt (T : Tb) (G F : Hp) : PV → V → Prop
  | .emp, _ => True
  | .non, v => v = .non
  | .bl b, v => v = .bl b
  | .int i, v => v = .int i
  | .str x, v => v = .str x
  | .tup xs, v => ∃ p vs, v = .ref p ∧ SqT T.K G p vs ∧ Reps T F xs vs
  | .lst _ xs, v => ∃ p vs, v = .ref p ∧ G p = some (.lst vs) ∧ Reps T F xs vs
  | .dK _ ks xs, v => ∃ p vs, v = .ref p ∧ G p = some (.dK (ks.zip vs)) ∧ ks.length = vs.length ∧ Reps T F xs vs
  | .dT _ ks xs, v => ∃ p vs, v = .ref p ∧ G p = some (.dT (ks.zip vs)) ∧ ks.length = vs.length ∧ Reps T F xs vs
  | .obj _ c xs, v => ∃ p dx vs, v = .ref p ∧ G p = some (.ins (T.ca c) dx ((T.flds c).zip vs)) ∧ vs.length ≤ (T.flds c).length ∧ Reps T F xs vs
  | .scr ns, v => ∃ p, v = .ref p ∧ SqL T.K G p (ns.map V.int)
  | .ty n, v => v = .ty n
  | .cls c, v => v = .ref (T.ca c)
  | .err d c xs, v => ∃ p vs, v = .ref p ∧ XAt T F c d vs ∧ Reps T F xs vs
theorem rep_at {T : Tb} {F : Hp} {a : PV} {v : V} : Rep T F a v ↔ RepAt T F F a v := by
  cases a <;> simp only [Rep, RepAt]
/-- frozen in F, or owned in H -/
def Own (T : Tb) (H F : Hp) (a : PV) (v : V) : Prop := RepAt T (if a.own = true then H else F) F a v
theorem Own.fz {T : Tb} {H F : Hp} {a : PV} {v : V} (ho : a.own = false) : Own T H F a v ↔ Rep T F a v := by
  unfold Own; rw [ho, rep_at]; simp
theorem Own.ow {T : Tb} {H F : Hp} {a : PV} {v : V} (ho : a.own = true) : Own T H F a v ↔ RepAt T H F a v := by
  unfold Own; rw [ho]; simp

section
variable {T : Tb} {F F' G G' H H' : Hp}
theorem Same.rfl' (H : Hp) : Same H H := fun _ _ h => h
mutual
theorem Rep.mono (e : Same F F') : ∀ {a : PV} {v : V}, Rep T F a v → Rep T F' a v
  | .emp, _, _ => by simp only [Rep]
  | .non, _, h => by simpa only [Rep] using h
  | .bl _, _, h => by simpa only [Rep] using h
  | .int _, _, h => by simpa only [Rep] using h
  | .str _, _, h => by simpa only [Rep] using h
  | .tup xs, _, h => by
    simp only [Rep] at h ⊢
    obtain ⟨p, vs, e1, h1, h2⟩ := h
    exact ⟨p, vs, e1, e.seqT h1, Reps.mono e h2⟩
  | .lst _ xs, _, h => by
    simp only [Rep] at h ⊢
    obtain ⟨p, vs, e1, h1, h2⟩ := h
    exact ⟨p, vs, e1, e _ _ h1, Reps.mono e h2⟩
  | .dK _ ks xs, _, h => by
    simp only [Rep] at h ⊢
    obtain ⟨p, vs, e1, h1, hl, h2⟩ := h
    exact ⟨p, vs, e1, e _ _ h1, hl, Reps.mono e h2⟩
  | .dT _ ks xs, _, h => by
    simp only [Rep] at h ⊢
    obtain ⟨p, vs, e1, h1, hl, h2⟩ := h
    exact ⟨p, vs, e1, e _ _ h1, hl, Reps.mono e h2⟩
  | .obj _ c xs, _, h => by
    simp only [Rep] at h ⊢
    obtain ⟨p, dx, vs, e1, h1, hl, h2⟩ := h
    exact ⟨p, dx, vs, e1, e _ _ h1, hl, Reps.mono e h2⟩
  | .scr ns, _, h => by
    simp only [Rep] at h ⊢
    obtain ⟨p, e1, h1⟩ := h
    exact ⟨p, e1, e.seq h1⟩
  | .ty _, _, h => by simpa only [Rep] using h
  | .cls _, _, h => by simpa only [Rep] using h
  | .err d c xs, _, h => by
    simp only [Rep] at h ⊢
    obtain ⟨p, vs, e1, h1, h2⟩ := h
    exact ⟨p, vs, e1, h1.mono e, Reps.mono e h2⟩
theorem Reps.mono (e : Same F F') : ∀ {xs : List PV} {vs : List V}, Reps T F xs vs → Reps T F' xs vs
  | [], _, h => by simpa only [Reps] using h
  | x :: xs, _, h => by
    simp only [Reps] at h ⊢
    obtain ⟨v, vs', e1, ⟨h1, ho⟩, h2⟩ := h
    exact ⟨v, vs', e1, ⟨Rep.mono e h1, ho⟩, Reps.mono e h2⟩
end
theorem RepAt.mono (eg : Same G G') (e : Same F F') {a : PV} {v : V} (h : RepAt T G F a v) : RepAt T G' F' a v := by
  cases a with
  | emp => trivial
  | non => exact h
  | bl _ => exact h
  | int _ => exact h
  | str _ => exact h
  | tup xs => obtain ⟨p, vs, e1, h1, h2⟩ := h; exact ⟨p, vs, e1, eg.seqT h1, h2.mono e⟩
  | lst _ xs => obtain ⟨p, vs, e1, h1, h2⟩ := h; exact ⟨p, vs, e1, eg _ _ h1, h2.mono e⟩
  | dK _ _ xs => obtain ⟨p, vs, e1, h1, hl, h2⟩ := h; exact ⟨p, vs, e1, eg _ _ h1, hl, h2.mono e⟩
  | dT _ _ xs => obtain ⟨p, vs, e1, h1, hl, h2⟩ := h; exact ⟨p, vs, e1, eg _ _ h1, hl, h2.mono e⟩
  | obj _ _ xs => obtain ⟨p, dx, vs, e1, h1, hl, h2⟩ := h; exact ⟨p, dx, vs, e1, eg _ _ h1, hl, h2.mono e⟩
  | scr _ => obtain ⟨p, e1, h1⟩ := h; exact ⟨p, e1, eg.seq h1⟩
  | ty _ => exact h
  | cls _ => exact h
  | err d c xs => obtain ⟨p, vs, e1, h1, h2⟩ := h; exact ⟨p, vs, e1, h1.mono e, h2.mono e⟩
theorem Own.mono (eh : Same H H') (e : Same F F') {a : PV} {v : V} (h : Own T H F a v) : Own T H' F' a v := by
  unfold Own at h ⊢
  refine h.mono ?_ e
  split
  · exact eh
  · exact e
theorem Reps.length : ∀ {xs : List PV} {vs : List V}, Reps T F xs vs → vs.length = xs.length
  | [], _, h => by simp only [Reps] at h; rw [h]; rfl
  | x :: xs, _, h => by
    simp only [Reps] at h
    obtain ⟨v, vs', e1, _, h2⟩ := h
    rw [e1, List.length_cons, List.length_cons, Reps.length h2]
theorem Reps.nil : Reps T F [] [] := by simp only [Reps]
theorem Reps.cons {x : PV} {v : V} {xs : List PV} {vs : List V} (h : Rep T F x v) (ho : x.own = false) (hs : Reps T F xs vs) : Reps T F (x :: xs) (v :: vs) := by
  simp only [Reps]; exact ⟨v, vs, rfl, ⟨h, ho⟩, hs⟩
theorem Reps.inv {x : PV} {xs : List PV} {vs : List V} (h : Reps T F (x :: xs) vs) : ∃ v vs', vs = v :: vs' ∧ Rep T F x v ∧ x.own = false ∧ Reps T F xs vs' := by
  simp only [Reps] at h
  obtain ⟨v, vs', e1, ⟨h1, ho⟩, h2⟩ := h
  exact ⟨v, vs', e1, h1, ho, h2⟩
theorem Reps.at : ∀ {xs : List PV} {vs : List V} {i : Nat} {x : PV}, Reps T F xs vs → xs[i]? = some x → ∃ v, vs[i]? = some v ∧ Rep T F x v ∧ x.own = false
  | [], _, _, _, _, e => by simp at e
  | y :: xs, _, i, x, h, e => by
    obtain ⟨v, vs', rfl, h1, ho, h2⟩ := h.inv
    cases i with
    | zero =>
      simp at e; subst e
      exact ⟨v, rfl, h1, ho⟩
    | succ i =>
      obtain ⟨w, q1, q2⟩ := Reps.at (i := i) (x := x) h2 (by simpa using e)
      exact ⟨w, by simpa using q1, q2⟩
theorem Reps.atV {xs : List PV} {vs : List V} {i : Nat} {v : V} (h : Reps T F xs vs) (e : vs[i]? = some v) : ∃ x, xs[i]? = some x ∧ Rep T F x v ∧ x.own = false := by
  have hl := h.length
  have hi : i < xs.length := by rw [← hl]; exact (List.getElem?_eq_some_iff.mp e).1
  obtain ⟨w, q1, q2⟩ := h.at (List.getElem?_eq_getElem hi)
  rw [e] at q1; cases q1
  exact ⟨_, List.getElem?_eq_getElem hi, q2⟩
theorem Reps.append : ∀ {xs ys : List PV} {vs ws : List V}, Reps T F xs vs → Reps T F ys ws → Reps T F (xs ++ ys) (vs ++ ws)
  | [], _, _, _, h, k => by simp only [Reps] at h; subst h; exact k
  | x :: xs, _, _, _, h, k => by
    obtain ⟨v, vs', rfl, h1, ho, h2⟩ := h.inv
    exact .cons h1 ho (Reps.append h2 k)
theorem Reps.of_at : ∀ {xs : List PV} {vs : List V}, vs.length = xs.length → (∀ (i : Nat) (x : PV) (v : V), xs[i]? = some x → vs[i]? = some v → Rep T F x v ∧ x.own = false) → Reps T F xs vs
  | [], [], _, _ => .nil
  | [], _ :: _, h, _ => by simp at h
  | _ :: _, [], h, _ => by simp at h
  | x :: xs, v :: vs, h, q => by
    obtain ⟨h1, h2⟩ := q 0 x v rfl rfl
    exact .cons h1 h2 (Reps.of_at (by simpa using h) fun i y w hy hw => q (i + 1) y w (by simpa using hy) (by simpa using hw))
theorem Reps.set {xs : List PV} {vs : List V} {x : PV} {v : V} (h : Reps T F xs vs) (i : Nat) (hx : Rep T F x v) (ho : x.own = false) : Reps T F (xs.set i x) (vs.set i v) := by
  have hl := h.length
  refine .of_at (by simp [hl]) fun j y w hy hw => ?_
  by_cases e : i = j
  · subst e
    rw [List.getElem?_set_self'] at hy hw
    cases q : xs[i]? with
    | none => rw [q] at hy; cases hy
    | some z =>
      rw [q] at hy; cases hy
      cases r : vs[i]? with
      | none => rw [r] at hw; cases hw
      | some z => rw [r] at hw; cases hw; exact ⟨hx, ho⟩
  · rw [List.getElem?_set_ne e] at hy hw
    obtain ⟨v', q1, q2⟩ := h.at hy
    rw [hw] at q1; cases q1
    exact q2
theorem Reps.take {xs : List PV} {vs : List V} (h : Reps T F xs vs) (n : Nat) : Reps T F (xs.take n) (vs.take n) := by
  refine .of_at (by simp [h.length]) fun j y w hy hw => ?_
  rw [List.getElem?_take] at hy hw
  split at hy
  · rename_i c
    rw [if_pos c] at hw
    obtain ⟨v', q1, q2⟩ := h.at hy
    rw [hw] at q1; cases q1
    exact q2
  · cases hy
theorem Reps.drop {xs : List PV} {vs : List V} (h : Reps T F xs vs) (n : Nat) : Reps T F (xs.drop n) (vs.drop n) := by
  refine .of_at (by simp [h.length]) fun j y w hy hw => ?_
  rw [List.getElem?_drop] at hy hw
  obtain ⟨v', q1, q2⟩ := h.at hy
  rw [hw] at q1; cases q1
  exact q2
theorem Reps.reverse {xs : List PV} {vs : List V} (h : Reps T F xs vs) : Reps T F xs.reverse vs.reverse := by
  induction xs generalizing vs with
  | nil => simp only [Reps] at h; subst h; exact .nil
  | cons x xs ih =>
    obtain ⟨v, vs', rfl, h1, ho, h2⟩ := h.inv
    rw [List.reverse_cons, List.reverse_cons]
    exact (ih h2).append (.cons h1 ho .nil)
theorem Reps.eraseIdx {xs : List PV} {vs : List V} (h : Reps T F xs vs) (n : Nat) : Reps T F (xs.eraseIdx n) (vs.eraseIdx n) := by
  rw [List.eraseIdx_eq_take_drop_succ, List.eraseIdx_eq_take_drop_succ]
  exact (h.take n).append (h.drop (n + 1))
theorem Reps.ints : ∀ (ns : List Int), Reps T F (ns.map PV.int) (ns.map V.int)
  | [] => .nil
  | n :: ns => .cons (by simp only [Rep]) rfl (Reps.ints ns)
end
end VL

set_option Elab.async false
set_option linter.all false
set_option maxRecDepth 100000
/-! What a state holds: items, each a value and where it lies; the owned ones apart from one another and from what is frozen. -/
namespace VL
open PySem PySem.Spec PyProof.Rows L2

abbrev Its := List (PV × V)
def fpOf (l : Its) : List Addr := l.filterMap fun x => if x.1.cell = true then (match x.2 with | .ref p => some p | _ => none) else none
theorem fpOf_cons (x : PV × V) (l : Its) : fpOf (x :: l) = (match (if x.1.cell = true then (match x.2 with | .ref p => some p | _ => none) else none : Option Addr) with | some p => p :: fpOf l | none => fpOf l) := by
  unfold fpOf
  rw [List.filterMap_cons]
  cases (if x.1.cell = true then (match x.2 with | .ref p => some p | _ => none) else none : Option Addr) <;> rfl
theorem fpOf_fz {a : PV} {v : V} {l : Its} (h : a.own = false) : fpOf ((a, v) :: l) = fpOf l := by rw [fpOf_cons]; simp [PV.cell_no h]
theorem fpOf_err {d : Option Addr} {c : String} {xs : List PV} {v : V} {l : Its} : fpOf ((.err d c xs, v) :: l) = fpOf l := by rw [fpOf_cons]; simp [PV.cell, PV.isErr]
theorem fpOf_ow {a : PV} {p : Addr} {l : Its} (h : a.cell = true) : fpOf ((a, .ref p) :: l) = p :: fpOf l := by rw [fpOf_cons]; simp [h]
theorem fpOf_append (l m : Its) : fpOf (l ++ m) = fpOf l ++ fpOf m := by unfold fpOf; rw [List.filterMap_append]
theorem mem_fpOf {p : Addr} {l : Its} : p ∈ fpOf l ↔ ∃ a, a.cell = true ∧ (a, V.ref p) ∈ l := by
  unfold fpOf
  rw [List.mem_filterMap]
  constructor
  · rintro ⟨⟨a, v⟩, hm, e⟩
    simp only at e
    split at e
    · rename_i ho
      cases v <;> simp at e
      subst e
      exact ⟨a, ho, hm⟩
    · cases e
  · rintro ⟨a, ho, hm⟩
    exact ⟨(a, .ref p), hm, by simp [ho]⟩

def Hold (T : Tb) (H : Hp) (l : Its) : Prop := ∃ F : Hp, Same F H ∧ (∀ x ∈ l, Own T H F x.1 x.2) ∧ (fpOf l).Nodup ∧ ∀ p ∈ fpOf l, F p = none

section
variable {T : Tb} {H H' : Hp} {l l' m τ : Its} {a b : PV} {v w : V} {p : Addr}
theorem fpOf_perm (h : l.Perm l') : (fpOf l).Perm (fpOf l') := h.filterMap _
theorem Hold.perm (e : l.Perm l') (h : Hold T H l) : Hold T H l' := by
  obtain ⟨F, s, o, n, d⟩ := h
  exact ⟨F, s, fun x hx => o x (e.mem_iff.mpr hx), (fpOf_perm e).nodup_iff.mp n, fun q hq => d q ((fpOf_perm e).mem_iff.mpr hq)⟩
theorem Hold.sub (e : l'.Sublist l) (h : Hold T H l) : Hold T H l' := by
  obtain ⟨F, s, o, n, d⟩ := h
  have e2 : (fpOf l').Sublist (fpOf l) := e.filterMap _
  exact ⟨F, s, fun x hx => o x (e.subset hx), n.sublist e2, fun q hq => d q (e2.subset hq)⟩
theorem Hold.tail {x : PV × V} (h : Hold T H (x :: l)) : Hold T H l := h.sub (List.sublist_cons_self ..)
theorem Hold.left (h : Hold T H (l ++ m)) : Hold T H l := h.sub (List.sublist_append_left ..)
theorem Hold.right (h : Hold T H (l ++ m)) : Hold T H m := h.sub (List.sublist_append_right ..)
theorem Hold.comm (h : Hold T H (l ++ m)) : Hold T H (m ++ l) := h.perm List.perm_append_comm
/-- a frozen value that every frozen heap under these items bears -/
theorem Hold.add (h : Hold T H l) (ho : a.own = false) (q : ∀ F, Same F H → (∀ x ∈ l, Own T H F x.1 x.2) → Rep T F a v) : Hold T H ((a, v) :: l) := by
  obtain ⟨F, s, o, n, d⟩ := h
  refine ⟨F, s, fun x hx => ?_, by rw [fpOf_fz ho]; exact n, fun q hq => d q (by rw [fpOf_fz ho] at hq; exact hq)⟩
  rcases List.mem_cons.mp hx with rfl | hx
  · exact (Own.fz ho).mpr (q F s o)
  · exact o x hx
/-- several of them -/
theorem Hold.adds : ∀ {xs : List PV} {vs : List V}, Hold T H l → vs.length = xs.length → (∀ F, Same F H → (∀ x ∈ l, Own T H F x.1 x.2) → Reps T F xs vs) → (∀ x ∈ xs, x.own = false) → Hold T H (xs.zip vs ++ l)
  | [], _, h, _, _, _ => by simpa using h
  | x :: xs, [], h, e, _, _ => by simp at e
  | x :: xs, v :: vs, h, e, q, ho => by
    have k : Hold T H (xs.zip vs ++ l) := Hold.adds h (by simpa using e) (fun F s o => by
      obtain ⟨w, ws, e1, h1, h2, h3⟩ := (q F s o).inv
      cases e1; exact h3) fun y hy => ho y (List.mem_cons_of_mem _ hy)
    rw [List.zip_cons_cons, List.cons_append]
    refine k.add (ho x List.mem_cons_self) fun F s o => ?_
    obtain ⟨w, ws, e1, h1, h2, h3⟩ := (q F s fun y hy => o y (List.mem_append_right _ hy)).inv
    cases e1; exact h1
theorem Hold.dup (h : Hold T H l) (hm : (a, v) ∈ l) (ho : a.own = false) : Hold T H ((a, v) :: l) := h.add ho fun F s o => (Own.fz ho).mp (o _ hm)
theorem Hold.non (h : Hold T H l) : Hold T H ((.non, .non) :: l) := h.add rfl fun F s o => by simp only [Rep]
theorem Hold.bl (h : Hold T H l) {b : Bool} : Hold T H ((.bl b, .bl b) :: l) := h.add rfl fun F s o => by simp only [Rep]
theorem Hold.int (h : Hold T H l) {i : Int} : Hold T H ((.int i, .int i) :: l) := h.add rfl fun F s o => by simp only [Rep]
theorem Hold.str (h : Hold T H l) {x : Str} : Hold T H ((.str x, .str x) :: l) := h.add rfl fun F s o => by simp only [Rep]
theorem Hold.emp (h : Hold T H l) {v : V} : Hold T H ((.emp, v) :: l) := h.add rfl fun F s o => by simp only [Rep]
/-- the heap grows -/
theorem Hold.same (h : Hold T H l) (e : Same H H') : Hold T H' l := by
  obtain ⟨F, s, o, n, d⟩ := h
  exact ⟨F, s.trans e, fun x hx => (o x hx).mono e (Same.refl F), n, d⟩
/-- what an item's place holds -/
theorem Hold.own (h : Hold T H l) (hm : (a, v) ∈ l) : ∃ F, Same F H ∧ Own T H F a v := by
  obtain ⟨F, s, o, n, d⟩ := h
  exact ⟨F, s, o _ hm⟩
theorem Hold.get (h : Hold T H l) (hm : (a, v) ∈ l) : ∃ F, Same F H ∧ RepAt T H F a v ∧ (∀ x ∈ l, Own T H F x.1 x.2) := by
  obtain ⟨F, s, o, n, d⟩ := h
  refine ⟨F, s, ?_, o⟩
  have := o _ hm
  unfold Own at this
  refine this.mono ?_ (Same.refl F)
  split
  · exact Same.refl H
  · exact s
theorem Hold.g_non (h : Hold T H l) (hm : (PV.non, v) ∈ l) : v = .non := by obtain ⟨F, s, r, _⟩ := h.get hm; exact r
theorem Hold.g_bl {b : Bool} (h : Hold T H l) (hm : (PV.bl b, v) ∈ l) : v = .bl b := by obtain ⟨F, s, r, _⟩ := h.get hm; exact r
theorem Hold.g_int {i : Int} (h : Hold T H l) (hm : (PV.int i, v) ∈ l) : v = .int i := by obtain ⟨F, s, r, _⟩ := h.get hm; exact r
theorem Hold.g_str {x : Str} (h : Hold T H l) (hm : (PV.str x, v) ∈ l) : v = .str x := by obtain ⟨F, s, r, _⟩ := h.get hm; exact r
theorem Hold.g_lst {o : Fl} {xs : List PV} (h : Hold T H l) (hm : (PV.lst o xs, v) ∈ l) : ∃ p vs, v = .ref p ∧ H p = some (.lst vs) ∧ vs.length = xs.length ∧ ∃ F, Same F H ∧ Reps T F xs vs := by
  obtain ⟨F, s, ⟨p, vs, e, h1, h2⟩, _⟩ := h.get hm
  exact ⟨p, vs, e, h1, h2.length, F, s, h2⟩
theorem Hold.g_tup {xs : List PV} (h : Hold T H l) (hm : (PV.tup xs, v) ∈ l) : ∃ p vs, v = .ref p ∧ SqT T.K H p vs ∧ vs.length = xs.length ∧ ∃ F, Same F H ∧ Reps T F xs vs := by
  obtain ⟨F, s, ⟨p, vs, e, h1, h2⟩, _⟩ := h.get hm
  exact ⟨p, vs, e, h1, h2.length, F, s, h2⟩
theorem Hold.g_obj {o : Fl} {c : String} {xs : List PV} (h : Hold T H l) (hm : (PV.obj o c xs, v) ∈ l) : ∃ p dx vs, v = .ref p ∧ H p = some (.ins (T.ca c) dx ((T.flds c).zip vs)) ∧ vs.length ≤ (T.flds c).length ∧ vs.length = xs.length := by
  obtain ⟨F, s, ⟨p, dx, vs, e, h1, hl, h2⟩, _⟩ := h.get hm
  exact ⟨p, dx, vs, e, h1, hl, h2.length⟩
/-- the items of a list, a tuple, an object, with their place: once the place is known, its values are these -/
theorem seqT_inj {F : Hp} {K : PySem.W.Frag} {p : Addr} {xs ys : List V} (s : Same F H) (h : SqT K F p xs) (k : SqT K H p ys) (two : ∀ o, K.lookup p = some o → H p = none) : xs = ys := by
  rcases h with (h | ⟨o, h⟩) | ⟨o, its, n, h1, h2, h3, h4, h5⟩
  · have h := s _ _ h
    rcases k with (k | ⟨o, k⟩) | ⟨o, its, n, k1, _⟩
    · rw [h] at k; cases k; rfl
    · rw [h] at k; cases k
    · rw [two _ k1] at h; cases h
  · have h := s _ _ h
    rcases k with (k | ⟨o, k⟩) | ⟨o, its, n, k1, _⟩
    · rw [h] at k; cases k
    · rw [h] at k; cases k; rfl
    · rw [two _ k1] at h; cases h
  · rcases k with (k | ⟨o', k⟩) | ⟨o', its', n', k1, k2, k3, k4, k5⟩
    · rw [two _ h1] at k; cases k
    · rw [two _ h1] at k; cases k
    · rw [h1] at k1; cases k1
      rw [h3] at k3; cases k3
      exact h5.inj k5
/-- a new object that bears frozen items -/
theorem Hold.new_own (h : Hold T H l) (hp : H p = none) {o : HO} (hc : a.cell = true) (q : ∀ F, Same F H → (∀ x ∈ l, Own T H F x.1 x.2) → RepAt T (upd H p o) F a (.ref p)) : Hold T (upd H p o) ((a, .ref p) :: l) := by
  have ho := PV.cell_own hc
  obtain ⟨F, s, ow, n, d⟩ := h
  have e : Same H (upd H p o) := fun b u k => by rw [upd_ne (ne_of_none k hp)]; exact k
  have np : p ∉ fpOf l := fun hm => by
    obtain ⟨c, hc, hcm⟩ := mem_fpOf.mp hm
    have := ow _ hcm
    unfold Own at this
    rw [if_pos (PV.cell_own hc)] at this
    cases c <;> simp [PV.cell, PV.isErr, PV.own, PV.fl] at hc <;> simp [RepAt] at this
    · obtain ⟨_, k, _⟩ := this; rw [hp] at k; cases k
    · obtain ⟨_, k, _⟩ := this; rw [hp] at k; cases k
    · obtain ⟨_, k, _⟩ := this; rw [hp] at k; cases k
    · obtain ⟨_, _, k, _⟩ := this; rw [hp] at k; cases k
  refine ⟨F, s.trans e, fun x hx => ?_, ?_, fun q' hq => ?_⟩
  · rcases List.mem_cons.mp hx with rfl | hx
    · exact (Own.ow ho).mpr (q F s ow)
    · exact (ow x hx).mono e (Same.refl F)
  · rw [fpOf_ow hc]; exact List.nodup_cons.mpr ⟨np, n⟩
  · rw [fpOf_ow hc] at hq
    rcases List.mem_cons.mp hq with rfl | hq
    · cases k : F q' with
      | none => rfl
      | some u => have := s _ _ k; rw [hp] at this; cases this
    · exact d q' hq
/-- no item is where nothing stands -/
theorem fp_new {F : Hp} (ow : ∀ x ∈ l, Own T H F x.1 x.2) (hp : H p = none) : p ∉ fpOf l := fun hm => by
  obtain ⟨c, hc, hcm⟩ := mem_fpOf.mp hm
  have := ow _ hcm
  unfold Own at this
  rw [if_pos (PV.cell_own hc)] at this
  cases c <;> simp [PV.cell, PV.isErr, PV.own, PV.fl] at hc <;> simp [RepAt] at this
  · obtain ⟨_, k, _⟩ := this; rw [hp] at k; cases k
  · obtain ⟨_, k, _⟩ := this; rw [hp] at k; cases k
  · obtain ⟨_, k, _⟩ := this; rw [hp] at k; cases k
  · obtain ⟨_, _, k, _⟩ := this; rw [hp] at k; cases k
theorem Hold.newF {F : Hp} (s : Same F H) (ow : ∀ x ∈ l, Own T H F x.1 x.2) (n : (fpOf l).Nodup) (d : ∀ p ∈ fpOf l, F p = none) (hp : H p = none) {o : HO} (ho : a.own = false) (q : RepAt T (upd F p o) (upd F p o) a v) : Hold T (upd H p o) ((a, v) :: l) := by
  have e : Same H (upd H p o) := fun b u k => by rw [upd_ne (ne_of_none k hp)]; exact k
  have fp : F p = none := by
    cases k : F p with
    | none => rfl
    | some u => have := s _ _ k; rw [hp] at this; cases this
  have ef : Same F (upd F p o) := fun b u k => by rw [upd_ne (ne_of_none k fp)]; exact k
  have np := fp_new ow hp
  refine ⟨upd F p o, fun b u k => ?_, fun x hx => ?_, by rw [fpOf_fz ho]; exact n, fun q' hq => ?_⟩
  · by_cases eb : b = p
    · subst eb; rw [upd_same] at k ⊢; exact k
    · rw [upd_ne eb] at k ⊢; exact s _ _ k
  · rcases List.mem_cons.mp hx with rfl | hx
    · exact (Own.fz ho).mpr (rep_at.mpr q)
    · exact (ow x hx).mono e ef
  · rw [fpOf_fz ho] at hq
    rw [upd_ne (show q' ≠ p from fun z => np (by rw [← z]; exact hq))]
    exact d q' hq
theorem same_newF {F : Hp} (s : Same F H) (hp : H p = none) (o : HO) : Same F (upd F p o) := fun b u k => by
  rw [upd_ne (fun z => by rw [z] at k; have := s _ _ k; rw [hp] at this; cases this)]; exact k
/-- a new frozen object -/
theorem Hold.new_fz (h : Hold T H l) (hp : H p = none) {o : HO} (ho : a.own = false) (q : ∀ F, Same F H → (∀ x ∈ l, Own T H F x.1 x.2) → RepAt T (upd F p o) (upd F p o) a v) : Hold T (upd H p o) ((a, v) :: l) := by
  obtain ⟨F, s, ow, n, d⟩ := h
  exact Hold.newF s ow n d hp ho (q F s ow)
/-- an own object is frozen -/
theorem Hold.freeze (h : Hold T H ((a, v) :: l)) : Hold T H ((a.setFl .fz, v) :: l) := by
  by_cases he : a.isErr = true
  · cases a <;> simp [PV.isErr] at he
    obtain ⟨F, s, ow, n, d⟩ := h
    rw [fpOf_err] at n d
    refine ⟨F, s, fun x hx => ?_, by rw [fpOf_fz rfl]; exact n, by rw [fpOf_fz rfl]; exact d⟩
    rcases List.mem_cons.mp hx with rfl | hx
    · exact (Own.fz rfl).mpr trivial
    · exact ow x (List.mem_cons_of_mem _ hx)
  by_cases ho : a.own = true
  · obtain ⟨F, s, ow, n, d⟩ := h
    have hce : a.cell = true := by unfold PV.cell; rw [ho]; simpa using he
    have ra := (Own.ow ho).mp (ow _ List.mem_cons_self)
    have fz : (a.setFl .fz).own = false := by cases a <;> rfl
    have go : ∀ (p : Addr) (o : HO), v = .ref p → H p = some o → RepAt T (upd F p o) F (a.setFl .fz) v → Hold T H ((a.setFl .fz, v) :: l) := by
      intro p o ev hp r
      subst ev
      rw [fpOf_ow hce] at n d
      have fp := d p List.mem_cons_self
      have ef : Same F (upd F p o) := fun b u k => by rw [upd_ne (ne_of_none k fp)]; exact k
      refine ⟨upd F p o, fun b u k => ?_, fun x hx => ?_, by rw [fpOf_fz fz]; exact (List.nodup_cons.mp n).2, fun q hq => ?_⟩
      · by_cases eb : b = p
        · subst eb; rw [upd_same] at k; cases k; exact hp
        · rw [upd_ne eb] at k; exact s _ _ k
      · rcases List.mem_cons.mp hx with rfl | hx
        · exact (Own.fz fz).mpr (rep_at.mpr (r.mono (Same.refl _) ef))
        · exact (ow x (List.mem_cons_of_mem _ hx)).mono (Same.refl H) ef
      · rw [fpOf_fz fz] at hq
        rw [upd_ne (show q ≠ p from fun z => (List.nodup_cons.mp n).1 (by rw [← z]; exact hq))]
        exact d q (List.mem_cons_of_mem _ hq)
    cases a with
    | lst o xs => obtain ⟨p, vs, e, h1, h2⟩ := ra; exact go p _ e h1 ⟨p, vs, e, upd_same, h2⟩
    | dK o ks xs => obtain ⟨p, vs, e, h1, h2⟩ := ra; exact go p _ e h1 ⟨p, vs, e, upd_same, h2⟩
    | dT o ks xs => obtain ⟨p, vs, e, h1, h2⟩ := ra; exact go p _ e h1 ⟨p, vs, e, upd_same, h2⟩
    | obj o c xs => obtain ⟨p, dx, vs, e, h1, h2⟩ := ra; exact go p _ e h1 ⟨p, dx, vs, e, upd_same, h2⟩
    | err _ _ _ => simp [PV.isErr] at he
    | _ => simp [PV.own, PV.fl] at ho
  · have : a.setFl .fz = a := by
      cases a with
      | lst o _ => cases o <;> simp [PV.own, PV.fl] at ho; rfl
      | dK o _ _ => cases o <;> simp [PV.own, PV.fl] at ho; rfl
      | dT o _ _ => cases o <;> simp [PV.own, PV.fl] at ho; rfl
      | obj o _ _ => cases o <;> simp [PV.own, PV.fl] at ho; rfl
      | err _ _ _ => simp [PV.isErr] at he
      | _ => rfl
    rw [this]; exact h
/-- ow and io lie alike -/
theorem Hold.relabel (h : Hold T H ((a, v) :: l)) (ho : a.own = true) {o : Fl} (hn : o ≠ .fz) : Hold T H ((a.setFl o, v) :: l) := by
  by_cases he : a.isErr = true
  · cases a <;> simp [PV.isErr] at he
    exact h.freeze
  obtain ⟨F, s, ow, n, d⟩ := h
  have ra := (Own.ow ho).mp (ow _ List.mem_cons_self)
  have ho' : (a.setFl o).own = true := by cases a <;> simp [PV.own, PV.fl, PV.isErr] at ho he <;> cases o <;> first | rfl | exact absurd rfl hn
  have c1 : a.cell = true := by unfold PV.cell; rw [ho]; simpa using he
  have c2 : (a.setFl o).cell = true := by unfold PV.cell; rw [ho']; cases a <;> first | rfl | simp [PV.isErr] at he
  have hf : fpOf ((a.setFl o, v) :: l) = fpOf ((a, v) :: l) := by rw [fpOf_cons, fpOf_cons]; simp [c1, c2]
  refine ⟨F, s, fun x hx => ?_, by rw [hf]; exact n, fun q hq => d q (by rw [hf] at hq; exact hq)⟩
  rcases List.mem_cons.mp hx with rfl | hx
  · refine (Own.ow ho').mpr ?_
    cases a <;> first | exact ra | simp [PV.isErr] at he
  · exact ow x (List.mem_cons_of_mem _ hx)
/-- an own object is changed -/
theorem Hold.write (h : Hold T H ((a, .ref p) :: l)) (ho : a.own = true) {o : HO} (hb : b.own = true) (q : ∀ F, Same F H → RepAt T H F a (.ref p) → (∀ x ∈ l, Own T H F x.1 x.2) → RepAt T (upd H p o) F b (.ref p)) (ca : a.isErr = false := by rfl) (cb : b.isErr = false := by rfl) : Hold T (upd H p o) ((b, .ref p) :: l) := by
  have c1 : a.cell = true := by unfold PV.cell; rw [ho, ca]; rfl
  have c2 : b.cell = true := by unfold PV.cell; rw [hb, cb]; rfl
  obtain ⟨F, s, ow, n, d⟩ := h
  have ra := (Own.ow ho).mp (ow _ List.mem_cons_self)
  rw [fpOf_ow c1] at n d
  have fp := d p List.mem_cons_self
  refine ⟨F, fun b u k => ?_, fun x hx => ?_, by rw [fpOf_ow c2]; exact n, by rw [fpOf_ow c2]; exact d⟩
  · rw [upd_ne (ne_of_none k fp)]; exact s _ _ k
  · rcases List.mem_cons.mp hx with rfl | hx
    · exact (Own.ow hb).mpr (q F s ra fun x hx => ow x (List.mem_cons_of_mem _ hx))
    · have := ow x (List.mem_cons_of_mem _ hx)
      by_cases hx' : x.1.own = true
      · rw [Own.ow hx'] at this ⊢
        have nx : x.1.isErr = false → ∀ q, x.2 = .ref q → q ≠ p := fun ne q e z => (List.nodup_cons.mp n).1 (by rw [← z]; exact mem_fpOf.mpr ⟨x.1, by unfold PV.cell; rw [hx', ne]; rfl, by rw [← e]; exact hx⟩)
        obtain ⟨c, u⟩ := x
        cases c <;> simp [PV.own, PV.fl] at hx'
        · obtain ⟨p', vs, e, h1, h2⟩ := this; exact ⟨p', vs, e, by rw [upd_ne (nx rfl _ e)]; exact h1, h2⟩
        · obtain ⟨p', vs, e, h1, h2⟩ := this; exact ⟨p', vs, e, by rw [upd_ne (nx rfl _ e)]; exact h1, h2⟩
        · obtain ⟨p', vs, e, h1, h2⟩ := this; exact ⟨p', vs, e, by rw [upd_ne (nx rfl _ e)]; exact h1, h2⟩
        · obtain ⟨p', dx, vs, e, h1, h2⟩ := this; exact ⟨p', dx, vs, e, by rw [upd_ne (nx rfl _ e)]; exact h1, h2⟩
        · exact this
      · have hx' : x.1.own = false := by simpa using hx'
        exact (Own.fz hx').mpr ((Own.fz hx').mp this)
end
end VL

set_option Elab.async false
set_option linter.all false
set_option maxRecDepth 100000
/-! Readings by values: an expression, arguments, a test, a statement as functions of the names' values. -/
namespace VL
open PySem PySem.Spec PyProof.Rows L2

/-! ### results -/
inductive R (α : Type) where
  | ok (a : α) (ρ : List PV)
  | exc (c : String) (xs : List PV) (ρ : List PV)
  | stuck
abbrev M (α : Type) := List PV → R α
def R.bind {α β : Type} (r : R α) (k : α → M β) : R β :=
  match r with
  | .ok a ρ => k a ρ
  | .exc c xs ρ => .exc c xs ρ
  | .stuck => .stuck
@[simp] theorem R.bind_ok {α β : Type} (a : α) (ρ : List PV) (k : α → M β) : (R.ok a ρ).bind k = k a ρ := rfl
@[simp] theorem R.bind_exc {α β : Type} (c : String) (xs ρ : List PV) (k : α → M β) : (R.exc c xs ρ : R α).bind k = .exc c xs ρ := rfl
@[simp] theorem R.bind_stuck {α β : Type} (k : α → M β) : (R.stuck : R α).bind k = .stuck := rfl
/-- a slot by its number -/
def nth : List PV → Nat → PV
  | [], _ => .emp
  | x :: _, 0 => x
  | _ :: xs, n + 1 => nth xs n
@[simp] theorem nth_zero (x : PV) (xs : List PV) : nth (x :: xs) 0 = x := rfl
@[simp] theorem nth_succ (x : PV) (xs : List PV) (n : Nat) : nth (x :: xs) (n + 1) = nth xs n := rfl
theorem nth_get : ∀ (xs : List PV) (i : Nat), nth xs i = xs[i]?.getD .emp
  | [], _ => by simp [nth]
  | x :: xs, 0 => by simp
  | x :: xs, n + 1 => by simp [nth_get xs n]
/-- what an expression gives: the name in slot i, or a value of its own -/
inductive Hd where
  | sl (i : Nat)
  | tm (a : PV)
def hv (ρ : List PV) : Hd → PV
  | .sl i => nth ρ i
  | .tm a => a
@[simp] theorem hv_sl (ρ : List PV) (i : Nat) : hv ρ (.sl i) = nth ρ i := rfl
@[simp] theorem hv_tm (ρ : List PV) (a : PV) : hv ρ (.tm a) = a := rfl
def hit : Hd → V → Its
  | .sl _, _ => []
  | .tm a, v => [(a, v)]
def hits : List Hd → List V → Its
  | h :: hs, v :: vs => hit h v ++ hits hs vs
  | _, _ => []

def its : List PV → L2.St → Its
  | a :: ρ, s :: σ => (a, s.getD .non) :: its ρ σ
  | _, _ => []
structure Fits (s0 : L2.St) (ρ : List PV) (σ : L2.St) : Prop where
  len : σ.length = ρ.length
  has : ∀ i, (nth ρ i).isEmp = false → ∃ v, σ[i]? = some (some v)
  io : ∀ i, (nth ρ i).isIo = true → σ[i]? = s0[i]?
theorem its_mem : ∀ {ρ : List PV} {σ : L2.St} {i : Nat} {v : V}, σ.length = ρ.length → σ[i]? = some (some v) → (nth ρ i, v) ∈ its ρ σ
  | [], [], _, _, _, e => by simp at e
  | [], _ :: _, _, _, h, _ => by simp at h
  | _ :: _, [], _, _, h, _ => by simp at h
  | a :: ρ, s :: σ, 0, v, h, e => by
    simp at e; subst e
    simp [its]
  | a :: ρ, s :: σ, i + 1, v, h, e => by
    have := its_mem (ρ := ρ) (σ := σ) (i := i) (v := v) (by simpa using h) (by simpa using e)
    simp [its, this]
theorem its_length : ∀ {ρ : List PV} {σ : L2.St}, σ.length = ρ.length → (its ρ σ).length = ρ.length
  | [], [], _ => rfl
  | [], _ :: _, h => by simp at h
  | _ :: _, [], h => by simp at h
  | a :: ρ, s :: σ, h => by simp [its, its_length (ρ := ρ) (σ := σ) (by simpa using h)]
theorem nth_set_same : ∀ {ρ : List PV} {i : Nat} {a : PV}, i < ρ.length → nth (ρ.set i a) i = a
  | _ :: _, 0, _, _ => rfl
  | _ :: ρ, i + 1, a, h => by simp [nth, nth_set_same (ρ := ρ) (i := i) (a := a) (by simpa using h)]
theorem nth_set_ne : ∀ {ρ : List PV} {i j : Nat} {a : PV}, i ≠ j → nth (ρ.set i a) j = nth ρ j
  | [], _, _, _, _ => by simp
  | _ :: _, 0, 0, _, h => absurd rfl h
  | _ :: _, 0, j + 1, _, _ => rfl
  | _ :: _, i + 1, 0, _, _ => rfl
  | _ :: ρ, i + 1, j + 1, a, h => by simp [nth, nth_set_ne (ρ := ρ) (i := i) (j := j) (a := a) (by omega)]
theorem nth_out : ∀ {ρ : List PV} {i : Nat}, ρ.length ≤ i → nth ρ i = .emp
  | [], _, _ => rfl
  | _ :: _, 0, h => by simp at h
  | _ :: ρ, i + 1, h => by simp [nth, nth_out (ρ := ρ) (i := i) (by simpa using h)]
/-- a slot's item taken out, another put in its place -/
theorem its_set : ∀ {ρ : List PV} {σ : L2.St} {i : Nat} {a : PV} {v : V}, σ.length = ρ.length → i < ρ.length → ∃ A B, its ρ σ = A ++ (nth ρ i, (σ[i]?.getD none).getD .non) :: B ∧ its (ρ.set i a) (σ.set i (some v)) = A ++ (a, v) :: B
  | [], _, _, _, _, _, h => by simp at h
  | _ :: _, [], _, _, _, h, _ => by simp at h
  | x :: ρ, s :: σ, 0, a, v, h, _ => ⟨[], its ρ σ, by simp [its], by simp [its]⟩
  | x :: ρ, s :: σ, i + 1, a, v, h, hi => by
    obtain ⟨A, B, e1, e2⟩ := its_set (ρ := ρ) (σ := σ) (i := i) (a := a) (v := v) (by simpa using h) (by simpa using hi)
    refine ⟨(x, s.getD .non) :: A, B, ?_, ?_⟩
    · simp only [its, nth_succ, List.cons_append, List.getElem?_cons_succ]; rw [e1]
    · simp only [List.set_cons_succ, its, List.cons_append]; rw [e2]
theorem set_self : ∀ {σ : L2.St} {i : Nat} {s : Option V}, σ[i]? = some s → σ.set i s = σ
  | [], _, _, h => by simp at h
  | _ :: _, 0, _, h => by simp at h; simp [h]
  | _ :: σ, i + 1, s, h => by simp at h; simp [set_self h]
theorem Fits.lt {s0 : L2.St} {ρ : List PV} {σ : L2.St} {i : Nat} {v : V} (f : Fits s0 ρ σ) (e : σ[i]? = some (some v)) : i < ρ.length := by
  rw [← f.len]; exact (List.getElem?_eq_some_iff.mp e).1
section
variable {T : Tb} {H : Hp} {s0 : L2.St} {ρ : List PV} {σ : L2.St} {τ ε : Its} {i : Nat} {a : PV} {v : V}
/-- a slot's value exchanged for one that lies at the same place -/
theorem Hold.slot (h : Hold T H ((a, v) :: (its ρ σ ++ τ))) (f : Fits s0 ρ σ) (hi : i < ρ.length) : Hold T H (its (ρ.set i a) (σ.set i (some v)) ++ τ) := by
  obtain ⟨A, B, e1, e2⟩ := its_set (a := a) (v := v) f.len hi
  rw [e2]
  rw [e1] at h
  have : ((a, v) :: (A ++ (nth ρ i, (σ[i]?.getD none).getD .non) :: B ++ τ)).Perm ((nth ρ i, (σ[i]?.getD none).getD .non) :: (A ++ (a, v) :: B ++ τ)) := by
    simp only [List.append_assoc, List.cons_append]
    refine .trans (.cons _ List.perm_middle) (.trans (.swap ..) (.cons _ List.perm_middle.symm))
  exact (h.perm this).tail
/-- a slot's value, by itself -/
theorem Hold.slotOut (h : Hold T H (its ρ σ ++ τ)) (f : Fits s0 ρ σ) (e : σ[i]? = some (some v)) : Hold T H ((nth ρ i, v) :: (its (ρ.set i .emp) σ ++ τ)) := by
  have hi := f.lt e
  obtain ⟨A, B, e1, e2⟩ := its_set (a := .emp) (v := v) f.len hi
  rw [set_self e] at e2
  rw [e2]
  rw [e1, e] at h
  simp only [Option.getD_some] at h
  have h2 : Hold T H ((nth ρ i, v) :: (A ++ (B ++ τ))) := h.perm (by simp only [List.append_assoc, List.cons_append]; exact List.perm_middle)
  have h3 : Hold T H ((.emp, v) :: (nth ρ i, v) :: (A ++ (B ++ τ))) := h2.emp
  refine h3.perm ?_
  simp only [List.append_assoc, List.cons_append]
  exact .trans (.swap ..) (.cons _ List.perm_middle.symm)
theorem Hold.slotIn (h : Hold T H ((a, v) :: (its (ρ.set i .emp) σ ++ τ))) (f : Fits s0 ρ σ) (e : σ[i]? = some (some v)) : Hold T H (its (ρ.set i a) σ ++ τ) := by
  have hi := f.lt e
  have f2 : (ρ.set i PV.emp).length = ρ.length := by simp
  obtain ⟨A, B, e1, e2⟩ := its_set (ρ := ρ.set i .emp) (a := a) (v := v) (by rw [f2]; exact f.len) (by rw [f2]; exact hi)
  rw [set_self e, List.set_set] at e2
  rw [e2]
  rw [e1] at h
  have : ((a, v) :: (A ++ (nth (ρ.set i .emp) i, (σ[i]?.getD none).getD .non) :: B ++ τ)).Perm ((nth (ρ.set i .emp) i, (σ[i]?.getD none).getD .non) :: (A ++ (a, v) :: B ++ τ)) := by
    simp only [List.append_assoc, List.cons_append]
    refine .trans (.cons _ List.perm_middle) (.trans (.swap ..) (.cons _ List.perm_middle.symm))
  exact (h.perm this).tail
theorem Fits.set (f : Fits s0 ρ σ) (hi : (nth ρ i).isIo = false) (ha : a.isIo = false) : Fits s0 (ρ.set i a) (σ.set i (some v)) := by
  refine ⟨by simp [f.len], fun j hj => ?_, fun j hj => ?_⟩
  · by_cases e : i = j
    · subst e
      by_cases l : i < ρ.length
      · exact ⟨v, by rw [List.getElem?_set_self (by rw [f.len]; exact l)]⟩
      · rw [nth_out (by simp; omega)] at hj; cases hj
    · rw [nth_set_ne e] at hj
      rw [List.getElem?_set_ne e]
      exact f.has j hj
  · by_cases e : i = j
    · subst e
      by_cases l : i < ρ.length
      · rw [nth_set_same l] at hj; rw [ha] at hj; cases hj
      · rw [nth_out (by simp; omega)] at hj; cases hj
    · rw [nth_set_ne e] at hj
      rw [List.getElem?_set_ne e]
      exact f.io j hj
/-- the value in a slot is another, the place the same -/
theorem Fits.re (f : Fits s0 ρ σ) (e : σ[i]? = some (some v)) (ha : a.isIo = true → (nth ρ i).isIo = true) : Fits s0 (ρ.set i a) σ := by
  refine ⟨by simp [f.len], fun j hj => ?_, fun j hj => ?_⟩
  · by_cases c : i = j
    · subst c; exact ⟨v, e⟩
    · rw [nth_set_ne c] at hj; exact f.has j hj
  · by_cases c : i = j
    · subst c
      rw [nth_set_same (f.lt e)] at hj
      exact f.io i (ha hj)
    · rw [nth_set_ne c] at hj; exact f.io j hj
theorem mem_hv {h : Hd} (f : Fits s0 ρ σ) (c : ∀ i, h = .sl i → σ[i]? = some (some v)) : (hv ρ h, v) ∈ hit h v ++ (its ρ σ ++ τ) := by
  cases h with
  | sl i => exact List.mem_append_right _ (List.mem_append_left _ (its_mem f.len (c i rfl)))
  | tm a => exact List.mem_append_left _ (by simp [hit, hv])
end

/-! ### contexts -/
structure G where
  T : Tb
  s0 : L2.St
  W : WX
def Post {α : Type} (g : G) (σ : L2.St) (τ : Its) (P : α → List PV → Prop) : R α → Prop
  | .ok a ρ => P a ρ
  | .exc c xs ρ => ∀ (d : Option Addr) (vs : List V) (H' : Hp), Fits g.s0 ρ σ → XAt g.T H' c d vs → vs.length = xs.length → Hold g.T H' (xs.zip vs ++ (its ρ σ ++ τ)) → g.W (.ref (g.T.ca c)) d σ H'
  | .stuck => False
def slotAt (σ : L2.St) (h : Hd) (v : V) : Prop := ∀ i, h = .sl i → σ[i]? = some (some v)
def PE1 (g : G) (σ : L2.St) (τ : Its) (Q : VK) (h : Hd) (ρ : List PV) : Prop := ∀ v H', Fits g.s0 ρ σ → slotAt σ h v → Hold g.T H' (hit h v ++ (its ρ σ ++ τ)) → Q v H'
def slotsAt (σ : L2.St) : List Hd → List V → Prop
  | [], vs => vs = []
  | h :: hs, vs => ∃ v vs', vs = v :: vs' ∧ slotAt σ h v ∧ slotsAt σ hs vs'
def PA1 (g : G) (σ : L2.St) (τ : Its) (Q : List V → Hp → Prop) (hs : List Hd) (ρ : List PV) : Prop := ∀ vs H', Fits g.s0 ρ σ → slotsAt σ hs vs → Hold g.T H' (hits hs vs ++ (its ρ σ ++ τ)) → Q vs H'
def PT1 (g : G) (σ : L2.St) (τ : Its) (Q : Bool → Hp → Prop) (b : Bool) (ρ : List PV) : Prop := ∀ H', Fits g.s0 ρ σ → Hold g.T H' (its ρ σ ++ τ) → Q b H'
/-- how a statement ends -/
inductive Fw where
  | nx | rt (a : PV) | bk | ct
def trE (g : G) (f : M Hd) : TE := fun σ H Q => ∃ ρ τ, Fits g.s0 ρ σ ∧ Hold g.T H (its ρ σ ++ τ) ∧ Post g σ τ (PE1 g σ τ Q) (f ρ)
def trA (g : G) (f : M (List Hd)) : TA := fun σ H Q => ∃ ρ τ, Fits g.s0 ρ σ ∧ Hold g.T H (its ρ σ ++ τ) ∧ Post g σ τ (PA1 g σ τ Q) (f ρ)
def trT (g : G) (f : M Bool) : TT := fun σ H Q => ∃ ρ τ, Fits g.s0 ρ σ ∧ Hold g.T H (its ρ σ ++ τ) ∧ Post g σ τ (PT1 g σ τ Q) (f ρ)
def PS1 (g : G) (τ : Its) (D : Ends) : R Fw → Prop
  | .ok .nx ρ => ∀ σ H', Fits g.s0 ρ σ → Hold g.T H' (its ρ σ ++ τ) → D.nx σ H'
  | .ok .bk ρ => ∀ σ H', Fits g.s0 ρ σ → Hold g.T H' (its ρ σ ++ τ) → D.bk σ H'
  | .ok .ct ρ => ∀ σ H', Fits g.s0 ρ σ → Hold g.T H' (its ρ σ ++ τ) → D.ct σ H'
  | .ok (.rt a) ρ => ∀ v σ H', Fits g.s0 ρ σ → Hold g.T H' ((a, v) :: (its ρ σ ++ τ)) → D.rt v H'
  | .exc c xs ρ => ∀ (d : Option Addr) (vs : List V) (σ : L2.St) (H' : Hp), Fits g.s0 ρ σ → XAt g.T H' c d vs → vs.length = xs.length → Hold g.T H' (xs.zip vs ++ (its ρ σ ++ τ)) → g.W (.ref (g.T.ca c)) d σ H'
  | .stuck => False
def trS (g : G) (f : M Fw) : TS := fun D σ H => ∃ ρ τ, Fits g.s0 ρ σ ∧ Hold g.T H (its ρ σ ++ τ) ∧ PS1 g τ D (f ρ)
abbrev EV (g : G) (X : Cx) (e : Expr) (f : M Hd) : Prop := PE X e (trE g f)
abbrev AV (g : G) (X : Cx) (es : List Expr) (f : M (List Hd)) : Prop := PA X es (trA g f)
abbrev TV (g : G) (X : Cx) (e : Expr) (f : M Bool) : Prop := PT X e (trT g f)
abbrev SV (g : G) (X : Cx) (st : Stmt) (f : M Fw) : Prop := PS X st (trS g f)
abbrev BV (g : G) (X : Cx) (st : List Stmt) (f : M Fw) : Prop := PSs X st (trS g f)

section
variable {g : G} {X : Cx} {e : Expr} {es : List Expr} {st : Stmt} {sts : List Stmt} {f : M Hd} {fs : M (List Hd)} {ft : M Bool} {fw : M Fw} {α : Type}
theorem ev_of {t : TE} (h : PE X e t) (q : ∀ σ H Q ρ τ, Fits g.s0 ρ σ → Hold g.T H (its ρ σ ++ τ) → Post g σ τ (PE1 g σ τ Q) (f ρ) → t σ H Q) : EV g X e f :=
  ⟨fun pins s σ H Q I ⟨ρ, τ, h1, h2, h3⟩ => h.run pins s σ H Q I (q σ H Q ρ τ h1 h2 h3)⟩
theorem av_of {t : TA} (h : PA X es t) (q : ∀ σ H Q ρ τ, Fits g.s0 ρ σ → Hold g.T H (its ρ σ ++ τ) → Post g σ τ (PA1 g σ τ Q) (fs ρ) → t σ H Q) : AV g X es fs :=
  ⟨fun pos pins s σ H Q I ⟨ρ, τ, h1, h2, h3⟩ => h.run pos pins s σ H Q I (q σ H Q ρ τ h1 h2 h3)⟩
theorem tv_of {t : TT} (h : PT X e t) (q : ∀ σ H Q ρ τ, Fits g.s0 ρ σ → Hold g.T H (its ρ σ ++ τ) → Post g σ τ (PT1 g σ τ Q) (ft ρ) → t σ H Q) : TV g X e ft :=
  ⟨fun pins s σ H Q I ⟨ρ, τ, h1, h2, h3⟩ => h.run pins s σ H Q I (q σ H Q ρ τ h1 h2 h3)⟩
theorem sv_of {t : TS} (h : PS X st t) (q : ∀ D σ H ρ τ, Fits g.s0 ρ σ → Hold g.T H (its ρ σ ++ τ) → PS1 g τ D (fw ρ) → t D σ H) : SV g X st fw :=
  ⟨fun pins s σ H D I ⟨ρ, τ, h1, h2, h3⟩ => h.run pins s σ H D I (q D σ H ρ τ h1 h2 h3)⟩
theorem bv_of {t : TS} (h : PSs X sts t) (q : ∀ D σ H ρ τ, Fits g.s0 ρ σ → Hold g.T H (its ρ σ ++ τ) → PS1 g τ D (fw ρ) → t D σ H) : BV g X sts fw :=
  ⟨fun pins s σ H D I ⟨ρ, τ, h1, h2, h3⟩ => h.run pins s σ H D I (q D σ H ρ τ h1 h2 h3)⟩

/-! ### one after another -/
variable {σ : L2.St} {H : Hp} {ρ : List PV} {τ ε : Its}
theorem exc_more {β γ : Type} {P : β → List PV → Prop} {P' : γ → List PV → Prop} {c : String} {xs ρ : List PV} (h : Post g σ τ P (.exc c xs ρ)) : Post g σ (ε ++ τ) P' (.exc c xs ρ) := by
  intro d vs H' ft hx hl hh
  refine h d vs H' ft hx hl (hh.sub ?_)
  exact List.Sublist.append_left (List.Sublist.append_left (List.sublist_append_right ..) _) _
theorem exc_same {β γ : Type} {P : β → List PV → Prop} {P' : γ → List PV → Prop} {c : String} {xs ρ : List PV} (h : Post g σ τ P (.exc c xs ρ)) : Post g σ τ P' (.exc c xs ρ) := h
/-- ahead of the rest k an expression -/
theorem stepE {P : α → List PV → Prop} {k : Hd → M α} {Q' : VK} (fit : Fits g.s0 ρ σ) (hold : Hold g.T H (its ρ σ ++ (ε ++ τ))) (hP : Post g σ τ P ((f ρ).bind k))
    (hk : ∀ h ρ1, Post g σ τ P (k h ρ1) → ∀ v H1, Fits g.s0 ρ1 σ → slotAt σ h v → Hold g.T H1 (hit h v ++ (its ρ1 σ ++ (ε ++ τ))) → Q' v H1) : trE g f σ H Q' := by
  refine ⟨ρ, ε ++ τ, fit, hold, ?_⟩
  cases e : f ρ with
  | ok h ρ1 => rw [e] at hP; exact hk h ρ1 hP
  | exc c xs ρ1 => rw [e] at hP; exact exc_more hP
  | stuck => rw [e] at hP; exact hP
theorem stepA {P : α → List PV → Prop} {k : List Hd → M α} {Q' : List V → Hp → Prop} (fit : Fits g.s0 ρ σ) (hold : Hold g.T H (its ρ σ ++ (ε ++ τ))) (hP : Post g σ τ P ((fs ρ).bind k))
    (hk : ∀ hs ρ1, Post g σ τ P (k hs ρ1) → ∀ vs H1, Fits g.s0 ρ1 σ → slotsAt σ hs vs → Hold g.T H1 (hits hs vs ++ (its ρ1 σ ++ (ε ++ τ))) → Q' vs H1) : trA g fs σ H Q' := by
  refine ⟨ρ, ε ++ τ, fit, hold, ?_⟩
  cases e : fs ρ with
  | ok h ρ1 => rw [e] at hP; exact hk h ρ1 hP
  | exc c xs ρ1 => rw [e] at hP; exact exc_more hP
  | stuck => rw [e] at hP; exact hP
theorem stepT {P : α → List PV → Prop} {k : Bool → M α} {Q' : Bool → Hp → Prop} (fit : Fits g.s0 ρ σ) (hold : Hold g.T H (its ρ σ ++ (ε ++ τ))) (hP : Post g σ τ P ((ft ρ).bind k))
    (hk : ∀ b ρ1, Post g σ τ P (k b ρ1) → ∀ H1, Fits g.s0 ρ1 σ → Hold g.T H1 (its ρ1 σ ++ (ε ++ τ)) → Q' b H1) : trT g ft σ H Q' := by
  refine ⟨ρ, ε ++ τ, fit, hold, ?_⟩
  cases e : ft ρ with
  | ok h ρ1 => rw [e] at hP; exact hk h ρ1 hP
  | exc c xs ρ1 => rw [e] at hP; exact exc_more hP
  | stuck => rw [e] at hP; exact hP
/-- the same ahead of a statement's rest -/
def Wb (g : G) (τ : Its) (D : Ends) {α : Type} (k : α → M Fw) (r : R α) : Prop := PS1 g τ D (r.bind k)
theorem stepES {k : Hd → M Fw} {D : Ends} {Q' : VK} (fit : Fits g.s0 ρ σ) (hold : Hold g.T H (its ρ σ ++ τ)) (hP : PS1 g τ D ((f ρ).bind k))
    (hk : ∀ h ρ1, PS1 g τ D (k h ρ1) → ∀ v H1, Fits g.s0 ρ1 σ → slotAt σ h v → Hold g.T H1 (hit h v ++ (its ρ1 σ ++ τ)) → Q' v H1) : trE g f σ H Q' := by
  refine ⟨ρ, τ, fit, hold, ?_⟩
  cases e : f ρ with
  | ok h ρ1 => rw [e] at hP; exact hk h ρ1 hP
  | exc c xs ρ1 => rw [e] at hP; exact fun d vs H' => hP d vs σ H'
  | stuck => rw [e] at hP; exact hP
theorem stepAS {k : List Hd → M Fw} {D : Ends} {Q' : List V → Hp → Prop} (fit : Fits g.s0 ρ σ) (hold : Hold g.T H (its ρ σ ++ τ)) (hP : PS1 g τ D ((fs ρ).bind k))
    (hk : ∀ h ρ1, PS1 g τ D (k h ρ1) → ∀ vs H1, Fits g.s0 ρ1 σ → slotsAt σ h vs → Hold g.T H1 (hits h vs ++ (its ρ1 σ ++ τ)) → Q' vs H1) : trA g fs σ H Q' := by
  refine ⟨ρ, τ, fit, hold, ?_⟩
  cases e : fs ρ with
  | ok h ρ1 => rw [e] at hP; exact hk h ρ1 hP
  | exc c xs ρ1 => rw [e] at hP; exact fun d vs H' => hP d vs σ H'
  | stuck => rw [e] at hP; exact hP
theorem stepTS {k : Bool → M Fw} {D : Ends} {Q' : Bool → Hp → Prop} (fit : Fits g.s0 ρ σ) (hold : Hold g.T H (its ρ σ ++ τ)) (hP : PS1 g τ D ((ft ρ).bind k))
    (hk : ∀ b ρ1, PS1 g τ D (k b ρ1) → ∀ H1, Fits g.s0 ρ1 σ → Hold g.T H1 (its ρ1 σ ++ τ) → Q' b H1) : trT g ft σ H Q' := by
  refine ⟨ρ, τ, fit, hold, ?_⟩
  cases e : ft ρ with
  | ok h ρ1 => rw [e] at hP; exact hk h ρ1 hP
  | exc c xs ρ1 => rw [e] at hP; exact fun d vs H' => hP d vs σ H'
  | stuck => rw [e] at hP; exact hP
end
end VL

set_option Elab.async false
set_option linter.all false
set_option maxRecDepth 100000
/-! Expressions by values. -/
namespace VL
open PySem PySem.Spec PyProof.Rows L2

/-- two lists with the same counts -/
theorem permc {l m : Its} (h : ∀ (i : BEq (PV × V)) (x : PV × V), l.count x = m.count x) : l.Perm m := by
  have d : DecidableEq (PV × V) := fun a b => Classical.propDecidable (a = b)
  exact (@List.perm_iff_count (PV × V) (@instBEqOfDecidableEq _ d) (by exact @instLawfulBEq _ d) l m).mpr fun x => h _ x
def lim : Nat := 100000
theorem lim_le {n : Nat} (h : n ≤ lim) : n ≤ sizeLine := My.small h
theorem lim_lt {n : Nat} (h : n < lim) : n < sizeLine := My.smallLt (Nat.le_of_lt h)
/-! ### memberships -/
section
variable {T : Tb} {H : Hp} {s0 : L2.St} {ρ ρ' : List PV} {σ : L2.St} {τ l : Its} {a : PV} {v : V} {h : Hd}
theorem mem_of (f : Fits s0 ρ σ) (c : slotAt σ h v) (h1 : ∀ x ∈ its ρ σ, x ∈ l) (h2 : ∀ x ∈ hit h v, x ∈ l) : (hv ρ h, v) ∈ l := by
  cases h with
  | sl i => exact h1 _ (its_mem f.len (c i rfl))
  | tm a => exact h2 _ (by simp [hit, hv])
theorem slot_tm : slotAt σ (.tm a) v := fun _ e => nomatch e
theorem mems_of : ∀ {hs : List Hd} {vs : List V}, Fits s0 ρ σ → slotsAt σ hs vs → (∀ x ∈ its ρ σ, x ∈ l) → (∀ x ∈ hits hs vs, x ∈ l) → vs.length = (hs.map (hv ρ)).length ∧ ∀ x ∈ (hs.map (hv ρ)).zip vs, x ∈ l
  | [], _, _, c, _, _ => by
    have c : _ = [] := c
    subst c
    simp
  | h :: hs, _, f, c, h1, h2 => by
    obtain ⟨v, vs', rfl, c1, c2⟩ := c
    obtain ⟨q1, q2⟩ := mems_of (hs := hs) (vs := vs') f c2 h1 fun x hx => h2 x (by simp only [hits]; exact List.mem_append_right _ hx)
    refine ⟨by simpa using q1, fun x hx => ?_⟩
    rw [List.map_cons, List.zip_cons_cons] at hx
    rcases List.mem_cons.mp hx with rfl | hx
    · exact mem_of f c1 h1 fun x hx => h2 x (by simp only [hits]; exact List.mem_append_left _ hx)
    · exact q2 x hx
end
/-! ### taking a value for good -/
def fzOf : PV → Option PV
  | .emp => none
  | .lst .io _ | .dK .io _ _ | .dT .io _ _ | .obj .io _ _ | .err _ _ _ => none
  | .lst _ xs => some (.lst .fz xs)
  | .dK _ ks xs => some (.dK .fz ks xs)
  | .dT _ ks xs => some (.dT .fz ks xs)
  | .obj _ c xs => some (.obj .fz c xs)
  | a => some a
theorem fzOf_eq {a b : PV} (h : fzOf a = some b) : b = a.setFl .fz ∧ a.isEmp = false ∧ b.own = false ∧ b.isIo = false ∧ b.isEmp = false := by
  cases a with
  | emp => cases h
  | lst o _ => cases o <;> first | cases h; exact ⟨rfl, rfl, rfl, rfl, rfl⟩ | cases h
  | dK o _ _ => cases o <;> first | cases h; exact ⟨rfl, rfl, rfl, rfl, rfl⟩ | cases h
  | dT o _ _ => cases o <;> first | cases h; exact ⟨rfl, rfl, rfl, rfl, rfl⟩ | cases h
  | obj o _ _ => cases o <;> first | cases h; exact ⟨rfl, rfl, rfl, rfl, rfl⟩ | cases h
  | err _ _ _ => cases h
  | _ => cases h; exact ⟨rfl, rfl, rfl, rfl, rfl⟩
theorem setFl_own (a : PV) : (a.setFl .fz).own = false := by cases a <;> rfl
def take (ρ : List PV) : Hd → Option (PV × List PV)
  | .tm a => some (a.setFl .fz, ρ)
  | .sl i => match fzOf (nth ρ i) with
    | some a => some (a, ρ.set i a)
    | none => none
def takes : List Hd → List PV → Option (List PV × List PV)
  | [], ρ => some ([], ρ)
  | h :: hs, ρ => match take ρ h with
    | some (a, ρ1) => match takes hs ρ1 with
      | some (as, ρ2) => some (a :: as, ρ2)
      | none => none
    | none => none
section
variable {T : Tb} {H : Hp} {s0 : L2.St} {ρ ρ' : List PV} {σ : L2.St} {τ l : Its} {a : PV} {v : V} {h : Hd}
theorem take_ok (f : Fits s0 ρ σ) (c : slotAt σ h v) (hh : Hold T H (hit h v ++ (its ρ σ ++ τ))) (e : take ρ h = some (a, ρ')) : Fits s0 ρ' σ ∧ a.own = false ∧ Hold T H ((a, v) :: (its ρ' σ ++ τ)) := by
  cases h with
  | tm b =>
    simp only [take, Option.some.injEq, Prod.mk.injEq] at e
    obtain ⟨rfl, rfl⟩ := e
    exact ⟨f, setFl_own b, Hold.freeze (by simpa [hit] using hh)⟩
  | sl i =>
    simp only [take] at e
    cases q : fzOf (nth ρ i) with
    | none => rw [q] at e; cases e
    | some b =>
      rw [q] at e
      simp only [Option.some.injEq, Prod.mk.injEq] at e
      obtain ⟨rfl, rfl⟩ := e
      obtain ⟨rfl, e1, e2, e3, e4⟩ := fzOf_eq q
      have ci := c i rfl
      have hh : Hold T H (its ρ σ ++ τ) := by simpa [hit] using hh
      have h1 := (hh.slotOut f ci).freeze
      have h2 := h1.slotIn f ci
      have f2 : Fits s0 (ρ.set i ((nth ρ i).setFl .fz)) σ := f.re ci fun z => by rw [e3] at z; cases z
      refine ⟨f2, e2, h2.dup (List.mem_append_left _ ?_) e2⟩
      have := its_mem f2.len ci
      rw [nth_set_same (f.lt ci)] at this
      exact this
theorem takes_ok : ∀ {hs : List Hd} {vs : List V} {ρ ρ' : List PV} {as : List PV} {τ : Its}, Fits s0 ρ σ → slotsAt σ hs vs → Hold T H (hits hs vs ++ (its ρ σ ++ τ)) → takes hs ρ = some (as, ρ') →
    Fits s0 ρ' σ ∧ vs.length = as.length ∧ (∀ a ∈ as, a.own = false) ∧ Hold T H (as.zip vs ++ (its ρ' σ ++ τ))
  | [], _, ρ, ρ', as, τ, f, c, hh, e => by
    have c : _ = [] := c
    subst c
    simp only [takes, Option.some.injEq, Prod.mk.injEq] at e
    obtain ⟨rfl, rfl⟩ := e
    exact ⟨f, rfl, (fun _ z => by cases z), by simpa [hits] using hh⟩
  | h :: hs, _, ρ, ρ', as, τ, f, c, hh, e => by
    obtain ⟨v, vs', rfl, c1, c2⟩ := c
    simp only [takes] at e
    cases q : take ρ h with
    | none => rw [q] at e; cases e
    | some p =>
      obtain ⟨a, ρ1⟩ := p
      rw [q] at e
      simp only at e
      cases q2 : takes hs ρ1 with
      | none => rw [q2] at e; cases e
      | some p2 =>
        obtain ⟨bs, ρ2⟩ := p2
        rw [q2] at e
        simp only [Option.some.injEq, Prod.mk.injEq] at e
        obtain ⟨rfl, rfl⟩ := e
        simp only [hits, List.append_assoc] at hh
        have hh1 : Hold T H (hit h v ++ (its ρ σ ++ (hits hs vs' ++ τ))) := hh.perm (List.Perm.append_left _ (by
          rw [← List.append_assoc, ← List.append_assoc]; exact List.Perm.append_right _ List.perm_append_comm))
        obtain ⟨f1, o1, k1⟩ := take_ok f c1 hh1 q
        have k2 : Hold T H (hits hs vs' ++ (its ρ1 σ ++ ((a, v) :: τ))) := k1.perm (permc fun _ x => by simp only [List.count_append, List.count_cons]; omega)
        obtain ⟨f2, l2, o2, k3⟩ := takes_ok f1 c2 k2 q2
        refine ⟨f2, by simp [l2], fun x hx => ?_, ?_⟩
        · rcases List.mem_cons.mp hx with rfl | hx
          · exact o1
          · exact o2 x hx
        · rw [List.zip_cons_cons, List.cons_append]
          refine k3.perm (.trans (List.Perm.append_left _ List.perm_middle) List.perm_middle)
end
theorem reps_of {T : Tb} {H F : Hp} {l : Its} : ∀ {as : List PV} {vs : List V}, vs.length = as.length → (∀ a ∈ as, a.own = false) → (∀ x ∈ as.zip vs, x ∈ l) → (∀ x ∈ l, Own T H F x.1 x.2) → Reps T F as vs
  | [], [], _, _, _, _ => .nil
  | [], _ :: _, h, _, _, _ => by simp at h
  | _ :: _, [], h, _, _, _ => by simp at h
  | a :: as, v :: vs, h, o, m, q => .cons ((Own.fz (o a List.mem_cons_self)).mp (q (a, v) (m _ (by simp)))) (o a List.mem_cons_self)
      (reps_of (by simpa using h) (fun b hb => o b (List.mem_cons_of_mem _ hb)) (fun x hx => m x (by rw [List.zip_cons_cons]; exact List.mem_cons_of_mem _ hx)) q)

/-! ### the words -/
def ofO (ρ : List PV) : Option PV → R Hd
  | some c => .ok (.tm c) ρ
  | none => .stuck
@[simp] theorem ofO_some (ρ : List PV) (c : PV) : ofO ρ (some c) = .ok (.tm c) ρ := rfl
@[simp] theorem ofO_none (ρ : List PV) : ofO ρ none = .stuck := rfl
def eN (i : Nat) : M Hd := fun ρ => if (nth ρ i).isEmp = true then .stuck else .ok (.sl i) ρ
def eC (a : PV) : M Hd := fun ρ => .ok (.tm a) ρ
def eBin (op : PV → PV → Option PV) (fa fb : M Hd) : M Hd := fun ρ => (fa ρ).bind fun h1 ρ1 => (fb ρ1).bind fun h2 ρ2 => ofO ρ2 (op (hv ρ2 h1) (hv ρ2 h2))
def eUn (op : PV → Option PV) (fa : M Hd) : M Hd := fun ρ => (fa ρ).bind fun h ρ1 => ofO ρ1 (op (hv ρ1 h))
def tru : PV → Option Bool
  | .non => some false
  | .bl b => some b
  | .int i => some (i != 0)
  | .str x => if x.length ≤ lim then some ((x.length : Int) != 0) else none
  | .tup xs => some (!xs.isEmpty)
  | .lst _ xs => some (!xs.isEmpty)
  | _ => none
def ofB (ρ : List PV) : Option Bool → R Bool
  | some c => .ok c ρ
  | none => .stuck
@[simp] theorem ofB_some (ρ : List PV) (c : Bool) : ofB ρ (some c) = .ok c ρ := rfl
@[simp] theorem ofB_none (ρ : List PV) : ofB ρ none = .stuck := rfl
/-- an expression as a test -/
def tE (fa : M Hd) : M Bool := fun ρ => (fa ρ).bind fun h ρ1 => ofB ρ1 (tru (hv ρ1 h))
def blOf : PV → Option Bool
  | .bl b => some b
  | _ => none
def tB (fa : M Hd) : M Bool := fun ρ => (fa ρ).bind fun h ρ1 => ofB ρ1 (blOf (hv ρ1 h))
def tAnd (ta tb : M Bool) : M Bool := fun ρ => (ta ρ).bind fun b ρ1 => if b = true then tb ρ1 else .ok false ρ1
def tOr (ta tb : M Bool) : M Bool := fun ρ => (ta ρ).bind fun b ρ1 => if b = true then .ok true ρ1 else tb ρ1
def tNot (ta : M Bool) : M Bool := fun ρ => (ta ρ).bind fun b ρ1 => .ok (!b) ρ1
def eAnd (fa fb : M Hd) : M Hd := fun ρ => (fa ρ).bind fun h ρ1 => (ofB ρ1 (blOf (hv ρ1 h))).bind fun b ρ2 => if b = true then fb ρ2 else .ok (.tm (.bl false)) ρ2
def eOr (fa fb : M Hd) : M Hd := fun ρ => (fa ρ).bind fun h ρ1 => (ofB ρ1 (blOf (hv ρ1 h))).bind fun b ρ2 => if b = true then .ok (.tm (.bl true)) ρ2 else fb ρ2
def eNot (fa : M Hd) : M Hd := fun ρ => (fa ρ).bind fun h ρ1 => (ofB ρ1 (blOf (hv ρ1 h))).bind fun b ρ2 => .ok (.tm (.bl (!b))) ρ2
def eIf (tc : M Bool) (fa fb : M Hd) : M Hd := fun ρ => (tc ρ).bind fun b ρ1 => if b = true then fa ρ1 else fb ρ1
def aNil : M (List Hd) := fun ρ => .ok [] ρ
def aCons (fa : M Hd) (fs : M (List Hd)) : M (List Hd) := fun ρ => (fa ρ).bind fun h ρ1 => (fs ρ1).bind fun hs ρ2 => .ok (h :: hs) ρ2
def eTup (fs : M (List Hd)) : M Hd := fun ρ => (fs ρ).bind fun hs ρ1 => match takes hs ρ1 with
  | some (as, ρ2) => if as.length ≤ lim then .ok (.tm (.tup as)) ρ2 else .stuck
  | none => .stuck
def eLst (fs : M (List Hd)) : M Hd := fun ρ => (fs ρ).bind fun hs ρ1 => match takes hs ρ1 with
  | some (as, ρ2) => if as.length ≤ lim then .ok (.tm (.lst .ow as)) ρ2 else .stuck
  | none => .stuck
/-- a call of what is built in -/
def eFn (op : List PV → Option PV) (fs : M (List Hd)) : M Hd := fun ρ => (fs ρ).bind fun hs ρ1 => ofO ρ1 (op (hs.map (hv ρ1)))
/-- chained comparisons -/
def eCh (op op' : PV → PV → Option PV) (fa fb fc : M Hd) : M Hd := fun ρ => (fa ρ).bind fun h1 ρ1 => (fb ρ1).bind fun h2 ρ2 => (ofB ρ2 ((op (hv ρ2 h1) (hv ρ2 h2)).bind blOf)).bind fun b ρ3 =>
  if b = true then (fc ρ3).bind fun h3 ρ4 => ofO ρ4 (op' (hv ρ4 h2) (hv ρ4 h3)) else .ok (.tm (.bl false)) ρ3

/-! ### their rules -/
def Opv (T : Tb) (g : PV → PV → Option PV) (r : R2) : Prop := ∀ (H : Hp) (l : Its) (a b c : PV) (v w : V) (Q : VK), Hold T H l → (a, v) ∈ l → (b, w) ∈ l → g a b = some c → (∀ z H', Hold T H' ((c, z) :: l) → Q z H') → r v w H Q
def Unv (T : Tb) (g : PV → Option PV) (r : V → Hp → VK → Prop) : Prop := ∀ (H : Hp) (l : Its) (a c : PV) (v : V) (Q : VK), Hold T H l → (a, v) ∈ l → g a = some c → (∀ z H', Hold T H' ((c, z) :: l) → Q z H') → r v H Q
def Fnv (T : Tb) (g : List PV → Option PV) (r : List V → Hp → VK → Prop) : Prop := ∀ (H : Hp) (l : Its) (as : List PV) (c : PV) (vs : List V) (Q : VK), Hold T H l → vs.length = as.length → (∀ x ∈ as.zip vs, x ∈ l) → g as = some c → (∀ z H', Hold T H' ((c, z) :: l) → Q z H') → r vs H Q
section
variable {g : G} {X : Cx} {a b c : Expr} {es : List Expr} {fa fb fc : M Hd} {fs : M (List Hd)} {ta tb tc : M Bool} {pos : Pos} {op op' : PV → PV → Option PV} {r r' : R2}
theorem ev_name {i : Nat} {x : Str} (hN : X.N[i]? = some x) (hv : Vis X.env.scope x) (hd : (x == ("__debug__" : Str)) = false := by decide) (hcd : (x == ("__classdict__" : Str)) = false := by decide) : EV g X (.Name x pos) (eN i) :=
  ev_of (pe_var hN hv hd hcd) fun σ H Q ρ τ f h hP => by
    unfold eN at hP
    cases e : (nth ρ i).isEmp with
    | true => rw [e] at hP; exact hP.elim
    | false =>
      rw [e] at hP
      obtain ⟨v, hv⟩ := f.has i e
      exact ⟨v, hv, hP v H f (fun j z => by cases z; exact hv) (by simpa [hit] using h)⟩
theorem ev_int {i : Int} {j} : EV g X (.Constant (.int i) j pos) (eC (.int i)) := ev_of pe_int fun σ H Q ρ τ f h hP => hP (.int i) H f slot_tm h.int
theorem ev_bl {i : Bool} {j} : EV g X (.Constant (.bool i) j pos) (eC (.bl i)) := ev_of pe_bl fun σ H Q ρ τ f h hP => hP (.bl i) H f slot_tm h.bl
theorem ev_non {j} : EV g X (.Constant .none j pos) (eC .non) := ev_of pe_non fun σ H Q ρ τ f h hP => hP .non H f slot_tm h.non
theorem ev_str {x : Str} {j} : EV g X (.Constant (.str x) j pos) (eC (.str x)) := ev_of pe_str fun σ H Q ρ τ f h hP => hP (.str x) H f slot_tm h.str
theorem ev_globI {i : Int} {x : Str} (hg : Gl X x) (h : ∃ t, X.mg x = some (.int i t)) (hd : (x == ("__debug__" : Str)) = false := by decide) : EV g X (.Name x pos) (eC (.int i)) := ev_of (My.pe_globI hg h hd) fun σ H Q ρ τ f h hP => hP (.int i) H f slot_tm h.int
theorem ev_globS {i : Str} {x : Str} (hg : Gl X x) (h : ∃ t, X.mg x = some (.str i t)) (hd : (x == ("__debug__" : Str)) = false := by decide) : EV g X (.Name x pos) (eC (.str i)) := ev_of (My.pe_globS hg h hd) fun σ H Q ρ τ f h hP => hP (.str i) H f slot_tm h.str

theorem nilT {ρ : List PV} {σ : L2.St} {τ : Its} {T : Tb} {H : Hp} (h : Hold T H (its ρ σ ++ τ)) : Hold T H (its ρ σ ++ ([] ++ τ)) := by simpa using h
/-- the item on top, then slots, then the rest -/
theorem mid {A B C : Its} {T : Tb} {H : Hp} (h : Hold T H (A ++ (B ++ C))) : Hold T H (B ++ (A ++ C)) := h.perm (by
  rw [← List.append_assoc, ← List.append_assoc]; exact List.Perm.append_right _ List.perm_append_comm)
/-- two operands -/
theorem two {α : Type} {P : α → List PV → Prop} {k : Hd → Hd → M α} {σ : L2.St} {H : Hp} {ρ : List PV} {τ : Its} {R' : V → V → Hp → Prop} (f : Fits g.s0 ρ σ) (h : Hold g.T H (its ρ σ ++ τ)) (hP : Post g σ τ P ((fa ρ).bind fun h1 ρ1 => (fb ρ1).bind fun h2 ρ2 => k h1 h2 ρ2))
    (hk : ∀ h1 h2 ρ2, Post g σ τ P (k h1 h2 ρ2) → ∀ v w H2 (l : Its), Fits g.s0 ρ2 σ → slotAt σ h1 v → slotAt σ h2 w → l = hit h2 w ++ (its ρ2 σ ++ (hit h1 v ++ τ)) → Hold g.T H2 l → (hv ρ2 h1, v) ∈ l → (hv ρ2 h2, w) ∈ l → (∀ c z H3, Hold g.T H3 ((c, z) :: l) → Hold g.T H3 ((c, z) :: (its ρ2 σ ++ τ))) → R' v w H2) :
    trE g fa σ H fun v H1 => trE g fb σ H1 fun w H2 => R' v w H2 := by
  refine stepE (ε := []) f (nilT h) hP fun h1 ρ1 hP1 v H1 f1 s1 k1 => ?_
  refine stepE (ε := hit h1 v) f1 (by rw [List.nil_append] at k1; exact mid k1) hP1 fun h2 ρ2 hP2 w H2 f2 s2 k2 => ?_
  refine hk h1 h2 ρ2 hP2 v w H2 _ f2 s1 s2 rfl k2 (mem_of f2 s1 (fun x hx => by simp [hx]) fun x hx => by simp [hx]) (mem_of f2 s2 (fun x hx => by simp [hx]) fun x hx => by simp [hx]) fun c z H3 k => ?_
  exact k.sub (.cons_cons _ (.trans (List.Sublist.append_left (List.sublist_append_right ..) _) (List.sublist_append_right ..)))
theorem ev_op {o : Operator} (ho : OpR X (binaryOp o) r) (hg : Opv g.T op r) (ha : EV g X a fa) (hb : EV g X b fb) : EV g X (.BinOp a o b pos) (eBin op fa fb) :=
  ev_of (pe_op ho ha hb) fun σ H Q ρ τ f h hP => two f h hP fun h1 h2 ρ2 hP2 v w H2 l f2 s1 s2 el k m1 m2 dn => by
    cases e : op (hv ρ2 h1) (hv ρ2 h2) with
    | none => rw [e] at hP2; exact hP2.elim
    | some c =>
      rw [e] at hP2
      exact hg H2 l _ _ c v w Q k m1 m2 e fun z H' k' => hP2 z H' f2 slot_tm (dn c z H' k')
theorem ev_cmp {o : CmpOp} (ho : OpR X (compareOp o) r) (hg : Opv g.T op r) (ha : EV g X a fa) (hb : EV g X b fb) (hm : behindInMarks o b = false := by first | exact nomark _ | rfl) : EV g X (.Compare a [o] [b] pos) (eBin op fa fb) :=
  ev_of (pe_cmpR ho ha hb hm) fun σ H Q ρ τ f h hP => two f h hP fun h1 h2 ρ2 hP2 v w H2 l f2 s1 s2 el k m1 m2 dn => by
    cases e : op (hv ρ2 h1) (hv ρ2 h2) with
    | none => rw [e] at hP2; exact hP2.elim
    | some c =>
      rw [e] at hP2
      exact hg H2 l _ _ c v w Q k m1 m2 e fun z H' k' => hP2 z H' f2 slot_tm (dn c z H' k')
theorem tv_cmp {o : CmpOp} (ho : OpR X (compareOp o) r) (hg : Opv g.T op r) (ha : EV g X a fa) (hb : EV g X b fb) (hm : behindInMarks o b = false := by first | exact nomark _ | rfl) : TV g X (.Compare a [o] [b] pos) (tB (eBin op fa fb)) :=
  tv_of (pt_cmpR ho ha hb hm) fun σ H Q ρ τ f h hP => two (k := fun h1 h2 ρ2 => (ofO ρ2 (op (hv ρ2 h1) (hv ρ2 h2))).bind fun h ρ1 => ofB ρ1 (blOf (hv ρ1 h))) f h (by
      have e : tB (eBin op fa fb) ρ = (fa ρ).bind fun h1 ρ1 => (fb ρ1).bind fun h2 ρ2 => (ofO ρ2 (op (hv ρ2 h1) (hv ρ2 h2))).bind fun h ρ1 => ofB ρ1 (blOf (hv ρ1 h)) := by
        unfold tB eBin
        cases fa ρ with
        | ok h1 ρ1 => simp only [R.bind_ok]; cases fb ρ1 <;> rfl
        | _ => rfl
      rw [e] at hP; exact hP) fun h1 h2 ρ2 hP2 v w H2 l f2 s1 s2 el k m1 m2 dn => by
    cases e : op (hv ρ2 h1) (hv ρ2 h2) with
    | none => rw [e] at hP2; exact hP2.elim
    | some c =>
      rw [e] at hP2
      refine hg H2 l _ _ c v w _ k m1 m2 e fun z H' k' => ?_
      simp only [ofO_some, R.bind_ok, hv_tm] at hP2
      cases c with
      | bl x =>
        have ez := k'.g_bl (b := x) (v := z) List.mem_cons_self
        exact ⟨x, ez, hP2 H' f2 (dn _ z H' k').tail⟩
      | _ => exact hP2.elim
theorem ev_un {o : UnaryOp} {ro : V → Hp → VK → Prop} {opu : PV → Option PV} (ho : UnR X (unaryOp o) ro) (hg : Unv g.T opu ro) (ha : EV g X a fa) : EV g X (.UnaryOp o a pos) (eUn opu fa) :=
  ev_of (pe_un ho ha) fun σ H Q ρ τ f h hP => stepE (ε := []) f (nilT h) hP fun h1 ρ1 hP1 v H1 f1 s1 k1 => by
    cases e : opu (hv ρ1 h1) with
    | none => rw [e] at hP1; exact hP1.elim
    | some c =>
      rw [e] at hP1
      rw [List.nil_append] at k1
      exact hg H1 _ _ c v Q k1 (mem_hv f1 s1) e fun z H' k' => hP1 z H' f1 slot_tm (k'.sub (.cons_cons _ (List.sublist_append_right ..)))
theorem ev_fn {id : String} {x : Str} {e : Expr} {p : Pos} {opf : List PV → Option PV} {rf : List V → Hp → VK → Prop} (hc : CallR X (.builtin id) rf) (hf : Fnv g.T opf rf) (hg : Gl X x) (hm : X.mg x = none) (hv' : bootBuiltins x = some (.builtin id)) (ha : AV g X (e :: es) fs) (hn : x ≠ "__name__" := by decide) (hdb : (x == ("__debug__" : Str)) = false := by decide)
    (h1 : starEach (e :: es) X.env = (false, eval e X.env) :: starEach es X.env := by rfl) (h2 : (backTo pos (starEach es X.env)).any (·.1) = false := by rfl) : EV g X (.Call (.Name x p) (e :: es) [] pos) (eFn opf fs) :=
  ev_of (pe_callB hc hg hm hv' ha hn hdb h1 h2) fun σ H Q ρ τ f h hP => stepA (ε := []) f (nilT h) hP fun hs ρ1 hP1 vs H1 f1 s1 k1 => by
    cases e : opf (hs.map (hv ρ1)) with
    | none => rw [e] at hP1; exact hP1.elim
    | some c =>
      rw [e] at hP1
      rw [List.nil_append] at k1
      obtain ⟨q1, q2⟩ := mems_of (l := hits hs vs ++ (its ρ1 σ ++ τ)) f1 s1 (fun x hx => by simp [hx]) fun x hx => by simp [hx]
      exact hf H1 _ _ c vs Q k1 q1 q2 e fun z H' k' => hP1 z H' f1 slot_tm (k'.sub (.cons_cons _ (List.sublist_append_right ..)))
theorem ev_ty {id : String} {x : Str} {e : Expr} {p : Pos} {opf : List PV → Option PV} {rf : List V → Hp → VK → Prop} (hc : CallR X (.type id) rf) (hf : Fnv g.T opf rf) (hg : Gl X x) (hm : X.mg x = none) (hv' : bootBuiltins x = some (.type id)) (ha : AV g X (e :: es) fs) (hn : x ≠ "__name__" := by decide) (hdb : (x == ("__debug__" : Str)) = false := by decide)
    (h1 : starEach (e :: es) X.env = (false, eval e X.env) :: starEach es X.env := by rfl) (h2 : (backTo pos (starEach es X.env)).any (·.1) = false := by rfl) : EV g X (.Call (.Name x p) (e :: es) [] pos) (eFn opf fs) :=
  ev_of (pe_callTy hc hg hm hv' ha hn hdb h1 h2) fun σ H Q ρ τ f h hP => stepA (ε := []) f (nilT h) hP fun hs ρ1 hP1 vs H1 f1 s1 k1 => by
    cases e : opf (hs.map (hv ρ1)) with
    | none => rw [e] at hP1; exact hP1.elim
    | some c =>
      rw [e] at hP1
      rw [List.nil_append] at k1
      obtain ⟨q1, q2⟩ := mems_of (l := hits hs vs ++ (its ρ1 σ ++ τ)) f1 s1 (fun x hx => by simp [hx]) fun x hx => by simp [hx]
      exact hf H1 _ _ c vs Q k1 q1 q2 e fun z H' k' => hP1 z H' f1 slot_tm (k'.sub (.cons_cons _ (List.sublist_append_right ..)))
theorem av_nil : AV g X [] aNil := av_of pa_nil fun σ H Q ρ τ f h hP => hP [] H f rfl (by simpa [hits] using h)
theorem av_cons (ha : EV g X a fa) (hs : AV g X es fs) (hst : starEach (a :: es) X.env = (false, eval a X.env) :: starEach es X.env := by rfl) : AV g X (a :: es) (aCons fa fs) :=
  av_of (pa_cons ha hs hst) fun σ H Q ρ τ f h hP => stepE (ε := []) f (nilT h) hP fun h1 ρ1 hP1 v H1 f1 s1 k1 => by
    refine stepA (ε := hit h1 v) f1 (by rw [List.nil_append] at k1; exact mid k1) hP1 fun hs ρ2 hP2 vs H2 f2 s2 k2 => ?_
    refine hP2 (v :: vs) H2 f2 ⟨v, vs, rfl, s1, s2⟩ ?_
    simp only [hits, List.append_assoc]
    exact k2.perm (permc fun _ x => by simp only [List.count_append]; omega)
theorem tv_e (hK : X.K = g.T.K) (ha : EV g X a fa) (he : ∀ whole, isTrue a X.env whole = (do let v ← whole; standAt a.pos; holding [v] (truthy v)) := by intro _; rfl) : TV g X a (tE fa) :=
  tv_of (pt_truth ha he) fun σ H Q ρ τ f h hP => stepE (ε := []) f (nilT h) hP fun h1 ρ1 hP1 v H1 f1 s1 k1 => by
    rw [List.nil_append] at k1
    have m := mem_hv (τ := τ) f1 s1
    have kt : Hold g.T H1 (its ρ1 σ ++ τ) := k1.right
    cases e : hv ρ1 h1 <;> rw [e] at hP1 m <;> simp only [tru] at hP1
    · exact hP1.elim
    · exact ⟨false, by rw [k1.g_non m]; rfl, hP1 H1 f1 kt⟩
    · rename_i b; exact ⟨b, by rw [k1.g_bl m]; rfl, hP1 H1 f1 kt⟩
    · rename_i i; exact ⟨i != 0, by rw [k1.g_int m]; rfl, hP1 H1 f1 kt⟩
    · rename_i x
      split at hP1
      · rename_i hl
        exact ⟨(x.length : Int) != 0, by rw [k1.g_str m]; exact ⟨lim_le hl, rfl⟩, hP1 H1 f1 kt⟩
      · exact hP1.elim
    · rename_i xs
      obtain ⟨p, vs, ev, hs, hl, _⟩ := k1.g_tup m
      refine ⟨!xs.isEmpty, ?_, hP1 H1 f1 kt⟩
      rw [ev]
      refine .inr (.inl ⟨vs, by rw [hK]; exact hs, ?_⟩)
      cases xs <;> cases vs <;> simp at hl <;> rfl
    · rename_i o xs
      obtain ⟨p, vs, ev, hs, hl, _⟩ := k1.g_lst m
      refine ⟨!xs.isEmpty, ?_, hP1 H1 f1 kt⟩
      rw [ev]
      refine .inl ⟨vs, SqL.of hs, ?_⟩
      cases xs <;> cases vs <;> simp at hl <;> rfl
    all_goals exact hP1.elim
end
end VL

set_option Elab.async false
set_option linter.all false
set_option maxRecDepth 100000
/-! Tests, displays, operators by values. -/
namespace VL
open PySem PySem.Spec PyProof.Rows L2
section
variable {g : G} {X : Cx} {a b c : Expr} {es rest : List Expr} {fa fb fc : M Hd} {fs : M (List Hd)} {ta tb tc : M Bool} {pos : Pos} {op op' : PV → PV → Option PV} {r r' : R2}

theorem sub3 (A B C D : Its) : (B ++ D).Sublist (A ++ (B ++ (C ++ D))) := .trans (List.Sublist.append_left (List.sublist_append_right C D) B) (List.sublist_append_right A _)
/-! ### and, or, not, if -/
abbrev WV (g : G) (X : Cx) (e : Expr) (f : M Bool) : Prop := PW X e (trT g f)
theorem wv_of {e : Expr} {t : TT} {ft : M Bool} (h : PW X e t) (q : ∀ σ H Q ρ τ, Fits g.s0 ρ σ → Hold g.T H (its ρ σ ++ τ) → Post g σ τ (PT1 g σ τ Q) (ft ρ) → t σ H Q) : WV g X e ft :=
  ⟨fun whole pins s σ H Q I ⟨ρ, τ, h1, h2, h3⟩ => h.run whole pins s σ H Q I (q σ H Q ρ τ h1 h2 h3)⟩
theorem wv_and1 (ha : TV g X a ta) : WV g X (.BoolOp .And [a] pos) ta := pw_and1 ha
theorem wv_or1 (ha : TV g X a ta) : WV g X (.BoolOp .Or [a] pos) ta := pw_or1 ha
theorem wv_and (ha : TV g X a ta) (hb : WV g X (.BoolOp .And (b :: rest) pos) tb) : WV g X (.BoolOp .And (a :: b :: rest) pos) (tAnd ta tb) :=
  wv_of (pw_and ha hb) fun σ H Q ρ τ f h hP => stepT (ε := []) f (nilT h) hP fun c ρ1 hP1 H1 f1 k1 => by
    cases c with
    | true => exact ⟨ρ1, τ, f1, k1, hP1⟩
    | false => exact hP1 H1 f1 k1
theorem wv_or (ha : TV g X a ta) (hb : WV g X (.BoolOp .Or (b :: rest) pos) tb) : WV g X (.BoolOp .Or (a :: b :: rest) pos) (tOr ta tb) :=
  wv_of (pw_or ha hb) fun σ H Q ρ τ f h hP => stepT (ε := []) f (nilT h) hP fun c ρ1 hP1 H1 f1 k1 => by
    cases c with
    | false => exact ⟨ρ1, τ, f1, k1, hP1⟩
    | true => exact hP1 H1 f1 k1
theorem tv_w {e : Expr} {t : M Bool} (h : WV g X e t) : TV g X e t := h.pt
theorem tv_not (ha : TV g X a ta) : TV g X (.UnaryOp .Not a pos) (tNot ta) :=
  tv_of (pt_not ha) fun σ H Q ρ τ f h hP => stepT (ε := []) f (nilT h) hP fun c ρ1 hP1 H1 f1 k1 => hP1 H1 f1 k1
theorem ev_one {o} (ha : EV g X a fa) : EV g X (.BoolOp o [a] pos) fa := pe_one ha
theorem bl_of {k : Bool → M Hd} {σ : L2.St} {τ : Its} {P : Hd → List PV → Prop} {ρ : List PV} {x : PV} (h : Post g σ τ P ((ofB ρ (blOf x)).bind k)) : ∃ b, x = .bl b ∧ Post g σ τ P (k b ρ) := by
  cases x <;> first | exact ⟨_, rfl, h⟩ | exact h.elim
theorem ev_and (ha : EV g X a fa) (hb : EV g X (.BoolOp .And (b :: rest) pos) fb) : EV g X (.BoolOp .And (a :: b :: rest) pos) (eAnd fa fb) :=
  ev_of (pe_and ha hb) fun σ H Q ρ τ f h hP => stepE (ε := []) f (nilT h) hP fun h1 ρ1 hP1 v H1 f1 s1 k1 => by
    rw [List.nil_append] at k1
    obtain ⟨c, e, hP2⟩ := bl_of hP1
    have m := mem_hv (τ := τ) f1 s1
    rw [e] at m
    refine ⟨c, k1.g_bl m, ?_⟩
    cases c with
    | true => exact ⟨ρ1, τ, f1, k1.right, hP2⟩
    | false => exact hP2 (.bl false) H1 f1 slot_tm k1.right.bl
theorem ev_or (ha : EV g X a fa) (hb : EV g X (.BoolOp .Or (b :: rest) pos) fb) : EV g X (.BoolOp .Or (a :: b :: rest) pos) (eOr fa fb) :=
  ev_of (pe_or ha hb) fun σ H Q ρ τ f h hP => stepE (ε := []) f (nilT h) hP fun h1 ρ1 hP1 v H1 f1 s1 k1 => by
    rw [List.nil_append] at k1
    obtain ⟨c, e, hP2⟩ := bl_of hP1
    have m := mem_hv (τ := τ) f1 s1
    rw [e] at m
    refine ⟨c, k1.g_bl m, ?_⟩
    cases c with
    | false => exact ⟨ρ1, τ, f1, k1.right, hP2⟩
    | true => exact hP2 (.bl true) H1 f1 slot_tm k1.right.bl
theorem ev_not (ha : EV g X a fa) : EV g X (.UnaryOp .Not a pos) (eNot fa) :=
  ev_of (pe_not ha) fun σ H Q ρ τ f h hP => stepE (ε := []) f (nilT h) hP fun h1 ρ1 hP1 v H1 f1 s1 k1 => by
    rw [List.nil_append] at k1
    obtain ⟨c, e, hP2⟩ := bl_of hP1
    have m := mem_hv (τ := τ) f1 s1
    rw [e] at m
    exact ⟨c, k1.g_bl m, hP2 (.bl (!c)) H1 f1 slot_tm k1.right.bl⟩
theorem ev_if (hc : TV g X c tc) (ha : EV g X a fa) (hb : EV g X b fb) : EV g X (.IfExp c a b pos) (eIf tc fa fb) :=
  ev_of (pe_ifExp hc ha hb) fun σ H Q ρ τ f h hP => stepT (ε := []) f (nilT h) hP fun c ρ1 hP1 H1 f1 k1 => by
    rw [List.nil_append] at k1
    cases c with
    | true => exact ⟨ρ1, τ, f1, k1, hP1⟩
    | false => exact ⟨ρ1, τ, f1, k1, hP1⟩
theorem ev_ch {o o' : CmpOp} (ho : OpR X (compareOp o) r) (hg : Opv g.T op r) (ho' : OpR X (compareOp o') r') (hg' : Opv g.T op' r') (ha : EV g X a fa) (hb : EV g X b fb) (hc : EV g X c fc)
    (hm : lastMarks [o, o'] [b, c] = false := by with_unfolding_all rfl) : EV g X (.Compare a [o, o'] [b, c] pos) (eCh op op' fa fb fc) :=
  ev_of (pe_chain ho ho' ha hb hc hm) fun σ H Q ρ τ f h hP => two f h hP fun h1 h2 ρ2 hP2 v w H2 l f2 s1 s2 el k m1 m2 dn => by
    cases e : op (hv ρ2 h1) (hv ρ2 h2) with
    | none => rw [e] at hP2; exact hP2.elim
    | some d =>
      rw [e] at hP2
      obtain ⟨x, ex, hP3⟩ := bl_of hP2
      subst ex
      refine hg H2 l _ _ _ v w _ k m1 m2 e fun z H3 k3 => ?_
      have ez := k3.g_bl (b := x) (v := z) List.mem_cons_self
      refine ⟨x, ez, ?_⟩
      cases x with
      | false => exact hP3 (.bl false) H3 f2 slot_tm (dn _ z H3 k3).tail.bl
      | true =>
        have k4 : Hold g.T H3 (its ρ2 σ ++ (hit h2 w ++ τ)) := k3.tail.sub (by
          rw [el]
          have : (hit h2 w ++ (its ρ2 σ ++ τ)).Sublist (hit h2 w ++ (its ρ2 σ ++ (hit h1 v ++ τ))) := List.Sublist.append_left (List.Sublist.append_left (List.sublist_append_right ..) _) _
          exact this) |>.perm (permc fun _ x => by simp only [List.count_append]; omega)
        refine stepE (ε := hit h2 w) f2 k4 hP3 fun h3 ρ4 hP4 u H4 f4 s4 k5 => ?_
        cases e2 : op' (hv ρ4 h2) (hv ρ4 h3) with
        | none => rw [e2] at hP4; exact hP4.elim
        | some d2 =>
          rw [e2] at hP4
          refine hg' H4 _ _ _ _ w u Q k5 (mem_of f4 s2 (fun x hx => by simp [hx]) fun x hx => by simp [hx]) (mem_of f4 s4 (fun x hx => by simp [hx]) fun x hx => by simp [hx]) e2 fun z' H5 k6 => ?_
          exact hP4 z' H5 f4 slot_tm (show Hold g.T H5 ((d2, z') :: (its ρ4 σ ++ τ)) from k6.sub (.cons_cons _ (sub3 ..)))
/-- a chain as a test -/
theorem tv_chv {o o' : CmpOp} (ho : OpR X (compareOp o) r) (hg : Opv g.T op r) (ho' : OpR X (compareOp o') r') (hg' : Opv g.T op' r') (ha : EV g X a fa) (hb : EV g X b fb) (hc : EV g X c fc)
    (hm : lastMarks [o, o'] [b, c] = false := by with_unfolding_all rfl) : TV g X (.Compare a [o, o'] [b, c] pos) (tB (eCh op op' fa fb fc)) :=
  tv_of (pt_chain ho ho' ha hb hc hm) fun σ H Q ρ τ f h hP => by
    refine (show tChain r r' (trE g fa) (trE g fb) (trE g fc) σ H fun x H' => ∃ k, x = .bl k ∧ Q k H' from ?_)
    have hP' : Post g σ τ (PT1 g σ τ Q) ((fa ρ).bind fun h1 ρ1 => (fb ρ1).bind fun h2 ρ2 => (ofB ρ2 ((op (hv ρ2 h1) (hv ρ2 h2)).bind blOf)).bind fun b ρ3 =>
        (if b = true then (fc ρ3).bind fun h3 ρ4 => ofO ρ4 (op' (hv ρ4 h2) (hv ρ4 h3)) else .ok (.tm (.bl false)) ρ3 : R Hd).bind fun h ρ1 => ofB ρ1 (blOf (hv ρ1 h))) := by
      unfold tB eCh at hP
      cases e1 : fa ρ with
      | ok h1 ρ1 =>
        rw [e1] at hP
        simp only [R.bind_ok] at hP ⊢
        cases e2 : fb ρ1 with
        | ok h2 ρ2 =>
          rw [e2] at hP
          simp only [R.bind_ok] at hP ⊢
          revert hP
          cases (op (hv ρ2 h1) (hv ρ2 h2)).bind blOf <;> exact id
        | exc _ _ _ => rw [e2] at hP; exact hP
        | stuck => rw [e2] at hP; exact hP
      | exc _ _ _ => rw [e1] at hP; exact hP
      | stuck => rw [e1] at hP; exact hP
    refine two f h hP' fun h1 h2 ρ2 hP2 v w H2 l f2 s1 s2 el k m1 m2 dn => ?_
    cases e : op (hv ρ2 h1) (hv ρ2 h2) with
    | none => rw [e] at hP2; exact hP2.elim
    | some d =>
      rw [e] at hP2
      have : ∃ x, d = .bl x := by cases d <;> first | exact ⟨_, rfl⟩ | exact hP2.elim
      obtain ⟨x, ex⟩ := this
      subst ex
      refine hg H2 l _ _ _ v w _ k m1 m2 e fun z H3 k3 => ?_
      have ez := k3.g_bl (b := x) (v := z) List.mem_cons_self
      refine ⟨x, ez, ?_⟩
      cases x with
      | false => exact ⟨false, rfl, hP2 H3 f2 (dn _ z H3 k3).tail⟩
      | true =>
        have k4 : Hold g.T H3 (its ρ2 σ ++ (hit h2 w ++ τ)) := k3.tail.sub (by
          rw [el]
          have : (hit h2 w ++ (its ρ2 σ ++ τ)).Sublist (hit h2 w ++ (its ρ2 σ ++ (hit h1 v ++ τ))) := List.Sublist.append_left (List.Sublist.append_left (List.sublist_append_right ..) _) _
          exact this) |>.perm (permc fun _ x => by simp only [List.count_append]; omega)
        have hP3 : Post g σ τ (PT1 g σ τ Q) ((fc ρ2).bind fun h3 ρ4 => (ofO ρ4 (op' (hv ρ4 h2) (hv ρ4 h3))).bind fun h ρ1 => ofB ρ1 (blOf (hv ρ1 h))) := by
          simp only [Option.bind_some, blOf, ofB_some, R.bind_ok, if_true] at hP2
          cases e3 : fc ρ2 <;> rw [e3] at hP2 <;> exact hP2
        refine stepE (ε := hit h2 w) f2 k4 hP3 fun h3 ρ4 hP4 u H4 f4 s4 k5 => ?_
        cases e2 : op' (hv ρ4 h2) (hv ρ4 h3) with
        | none => rw [e2] at hP4; exact hP4.elim
        | some d2 =>
          rw [e2] at hP4
          have : ∃ x, d2 = .bl x := by cases d2 <;> first | exact ⟨_, rfl⟩ | exact hP4.elim
          obtain ⟨y, ey⟩ := this
          subst ey
          refine hg' H4 _ _ _ _ w u _ k5 (mem_of f4 s2 (fun x hx => by simp [hx]) fun x hx => by simp [hx]) (mem_of f4 s4 (fun x hx => by simp [hx]) fun x hx => by simp [hx]) e2 fun z' H5 k6 => ?_
          have ez' := k6.g_bl (b := y) (v := z') List.mem_cons_self
          exact ⟨y, ez', hP4 H5 f4 (k6.tail.sub (sub3 ..))⟩

/-! ### displays -/
theorem ev_tup {x1} (hs : AV g X es fs) : EV g X (.Tuple es x1 pos) (eTup fs) :=
  ev_of (pe_tup hs) fun σ H Q ρ τ f h hP => stepA (ε := []) f (nilT h) hP fun hs ρ1 hP1 vs H1 f1 s1 k1 => by
    rw [List.nil_append] at k1
    cases e : takes hs ρ1 with
    | none => simp only [e] at hP1; exact hP1.elim
    | some p =>
      obtain ⟨as, ρ2⟩ := p
      simp only [e] at hP1
      obtain ⟨f2, l2, o2, k2⟩ := takes_ok f1 s1 k1 e
      split at hP1
      · rename_i hl
        refine ⟨lim_le (by rw [l2]; exact hl), fun p hp => hP1 (.ref p) _ f2 slot_tm ?_⟩
        refine (Hold.new_fz k2 hp (a := .tup as) rfl fun F s o => ⟨p, vs, rfl, SqT.of upd_same, ?_⟩).sub (.cons_cons _ (List.sublist_append_right ..))
        refine (reps_of l2 o2 (fun x hx => List.mem_append_left _ hx) o).mono fun b u q => ?_
        rw [upd_ne (fun z => by rw [z] at q; have := s _ _ q; rw [hp] at this; cases this)]; exact q
      · exact hP1.elim
theorem ev_lst (hs : AV g X es fs) : EV g X (.List es pos) (eLst fs) :=
  ev_of (pe_lst hs) fun σ H Q ρ τ f h hP => stepA (ε := []) f (nilT h) hP fun hs ρ1 hP1 vs H1 f1 s1 k1 => by
    rw [List.nil_append] at k1
    cases e : takes hs ρ1 with
    | none => simp only [e] at hP1; exact hP1.elim
    | some p =>
      obtain ⟨as, ρ2⟩ := p
      simp only [e] at hP1
      obtain ⟨f2, l2, o2, k2⟩ := takes_ok f1 s1 k1 e
      split at hP1
      · rename_i hl
        refine ⟨lim_le (by rw [l2]; exact hl), fun p hp => hP1 (.ref p) _ f2 slot_tm ?_⟩
        exact (Hold.new_own k2 hp (a := .lst .ow as) rfl fun F s o => ⟨p, vs, rfl, upd_same, reps_of l2 o2 (fun x hx => List.mem_append_left _ hx) o⟩).sub (.cons_cons _ (List.sublist_append_right ..))
      · exact hP1.elim
end
end VL

set_option Elab.async false
set_option linter.all false
set_option maxRecDepth 100000
/-! Operators by values. -/
namespace VL
open PySem PySem.Spec PyProof.Rows L2
theorem op_or2 {X : Cx} {f : Value → Value → Sem Value} {r r' : R2} (h : OpR X f r) (h' : OpR X f r') : OpR X f (fun x y H Q => r x y H Q ∨ r' x y H Q) := by
  intro pins s σ H x y v u Q I rx ry q
  rcases q with q | q
  · exact h pins s σ H x y v u Q I rx ry q
  · exact h' pins s σ H x y v u Q I rx ry q
theorem call_or2 {X : Cx} {f : Value} {r r' : List V → Hp → VK → Prop} (h : CallR X f r) (h' : CallR X f r') : CallR X f (fun x H Q => r x H Q ∨ r' x H Q) := by
  intro pins s σ H x v Q I rx q
  rcases q with q | q
  · exact h pins s σ H x v Q I rx q
  · exact h' pins s σ H x v Q I rx q

/-! ### numbers -/
def oI (C : Int → Int → Bool) (f : Int → Int → Int) : PV → PV → Option PV
  | .int i, .int j => if C i j = true then some (.int (f i j)) else none
  | _, _ => none
def oB (f : Int → Int → Bool) : PV → PV → Option PV
  | .int i, .int j => some (.bl (f i j))
  | _, _ => none
theorem opv_I {T : Tb} {C : Int → Int → Bool} {f : Int → Int → Int} {CP : Int → Int → Prop} (h : ∀ i j, C i j = true → CP i j) : Opv T (oI C f) (rI CP fun i j => .int (f i j)) := by
  intro H l a b c v w Q k m1 m2 e q
  cases a <;> cases b <;> simp only [oI] at e <;> try cases e
  rename_i i j
  split at e
  · rename_i hc
    cases e
    exact ⟨i, j, k.g_int m1, k.g_int m2, h i j hc, q _ _ k.int⟩
  · cases e
theorem opv_I0 {T : Tb} {f : Int → Int → Int} : Opv T (oI (fun _ _ => true) f) (rI0 fun i j => .int (f i j)) := by
  intro H l a b c v w Q k m1 m2 e q
  cases a <;> cases b <;> simp only [oI, if_true] at e <;> try cases e
  rename_i i j
  exact ⟨i, j, k.g_int m1, k.g_int m2, q _ _ k.int⟩
theorem opv_B {T : Tb} {f : Int → Int → Bool} : Opv T (oB f) (rI0 fun i j => .bl (f i j)) := by
  intro H l a b c v w Q k m1 m2 e q
  cases a <;> cases b <;> simp only [oB] at e <;> try cases e
  rename_i i j
  exact ⟨i, j, k.g_int m1, k.g_int m2, q _ _ k.bl⟩
def oSub : PV → PV → Option PV := oI (fun _ _ => true) fun i j => i - j
def cMul (i j : Int) : Bool := decide ((-(2 ^ 64) < i ∧ i < 2 ^ 64) ∨ (-(2 ^ 64) < j ∧ j < 2 ^ 64))
def oMulI : PV → PV → Option PV := oI cMul fun i j => i * j
def oDiv : PV → PV → Option PV := oI (fun _ j => decide (0 < j ∧ j < 1073741824)) fun i j => i / j
def oMod : PV → PV → Option PV := oI (fun _ j => decide (0 < j)) fun i j => i % j
def oPow : PV → PV → Option PV := oI (fun i j => decide (0 ≤ j ∧ j ≤ 1000000 ∧ i.natAbs < 2 ^ 64)) fun i j => i ^ j.toNat
def oShl : PV → PV → Option PV := oI (fun i j => decide (0 ≤ j ∧ j ≤ 1000000 ∧ i.natAbs < 2 ^ 64)) fun i j => i * 2 ^ j.toNat
def oShr : PV → PV → Option PV := oI (fun _ j => decide (0 ≤ j)) fun i j => i / 2 ^ j.toNat
def oBitAnd : PV → PV → Option PV := oI (fun _ _ => true) fun i j => Builtin.bitAnd i j
def oBitOr : PV → PV → Option PV := oI (fun _ _ => true) fun i j => Builtin.bitOr i j
def oLt : PV → PV → Option PV := oB fun i j => decide (i < j)
def oLe : PV → PV → Option PV := oB fun i j => decide (i ≤ j)
def oGt : PV → PV → Option PV := oB fun i j => decide (j < i)
def oGe : PV → PV → Option PV := oB fun i j => decide (j ≤ i)
section
variable {T : Tb} {X : Cx}
theorem v_sub : Opv T oSub (rI0 fun i j => .int (i - j)) := opv_I0
theorem v_div : Opv T oDiv (rI CDiv fun i j => .int (i / j)) := opv_I fun i j h => show 0 < j ∧ j < 1073741824 from of_decide_eq_true h
theorem v_mod : Opv T oMod (rI (fun _ j => 0 < j) fun i j => .int (i % j)) := opv_I fun _ _ h => of_decide_eq_true h
theorem v_pow : Opv T oPow (rI CPow fun i j => .int (i ^ j.toNat)) := opv_I fun i j h => show 0 ≤ j ∧ j ≤ 1000000 ∧ i.natAbs < 2 ^ 64 from of_decide_eq_true h
theorem v_shl : Opv T oShl (rI CPow fun i j => .int (i * 2 ^ j.toNat)) := opv_I fun i j h => show 0 ≤ j ∧ j ≤ 1000000 ∧ i.natAbs < 2 ^ 64 from of_decide_eq_true h
theorem v_shr : Opv T oShr (rI (fun _ j => 0 ≤ j) fun i j => .int (i / 2 ^ j.toNat)) := opv_I fun _ _ h => of_decide_eq_true h
theorem v_and : Opv T oBitAnd (rI0 fun i j => .int (Builtin.bitAnd i j)) := opv_I0
theorem v_or : Opv T oBitOr (rI0 fun i j => .int (Builtin.bitOr i j)) := opv_I0
theorem v_lt : Opv T oLt (rI0 fun i j => .bl (decide (i < j))) := opv_B
theorem v_le : Opv T oLe (rI0 fun i j => .bl (decide (i ≤ j))) := opv_B
theorem v_gt : Opv T oGt (rI0 fun i j => .bl (decide (j < i))) := opv_B
theorem v_ge : Opv T oGe (rI0 fun i j => .bl (decide (j ≤ i))) := opv_B
def oNeg : PV → Option PV
  | .int i => some (.int (-i))
  | _ => none
theorem v_neg : Unv T oNeg (rU fun i => .int (-i)) := by
  intro H l a c v Q k m e q
  cases a <;> simp only [oNeg] at e <;> try cases e
  rename_i i
  exact ⟨i, k.g_int m, q _ _ k.int⟩

/-! ### + -/
def oAdd : PV → PV → Option PV
  | .int i, .int j => some (.int (i + j))
  | .str x, .str y => if x.length + y.length ≤ lim then some (.str (x ++ y)) else none
  | .tup xs, .tup ys => if xs.length + ys.length ≤ lim then some (.tup (xs ++ ys)) else none
  | .lst _ xs, .lst _ ys => if xs.length + ys.length ≤ lim then some (.lst .ow (xs ++ ys)) else none
  | _, _ => none
def rAddA (K : PySem.W.Frag) : R2 := fun x y H Q => (rI0 (fun i j => .int (i + j)) x y H Q ∨ ∃ i j, x = .str i ∧ y = .str j ∧ i.length + j.length ≤ sizeLine ∧ Q (.str (i ++ j)) H) ∨ (rCatA K x y H Q ∨ rCat x y H Q)
theorem o_add : OpR X (binaryOp .Add) (rAddA X.K) := op_or2 (op_or2 op_add op_add_str) (op_or2 op_catA op_cat)
theorem v_add : Opv T oAdd (rAddA T.K) := by
  intro H l a b c v w Q k m1 m2 e q
  cases a <;> cases b <;> simp only [oAdd] at e <;> try cases e
  · rename_i i j
    exact .inl (.inl ⟨i, j, k.g_int m1, k.g_int m2, q _ _ k.int⟩)
  · rename_i x y
    split at e <;> cases e
    rename_i hl
    exact .inl (.inr ⟨x, y, k.g_str m1, k.g_str m2, lim_le hl, q _ _ k.str⟩)
  · rename_i xs ys
    split at e <;> cases e
    rename_i hl
    have both : ∃ F, Same F H ∧ (∀ x ∈ l, Own T H F x.1 x.2) ∧ (fpOf l).Nodup ∧ ∀ p ∈ fpOf l, F p = none := k
    obtain ⟨F, s, o, n, d⟩ := both
    obtain ⟨p, vs, rfl, h1, r1⟩ := o _ m1
    obtain ⟨p2, ws, rfl, h2, r2⟩ := o _ m2
    simp only [PV.own, PV.fl, Bool.false_eq_true, if_false] at h1 h2
    have k : Hold T H l := ⟨F, s, o, n, d⟩
    refine .inr (.inl ⟨p, p2, vs, ws, rfl, rfl, s.seqT h1, s.seqT h2, lim_le (by rw [r1.length, r2.length]; exact hl), fun z => ?_, fun z1 z2 => ?_, fun z1 z2 t ht => ?_⟩)
    · subst z
      have : xs = [] := by have := r1.length; cases xs <;> simp_all
      subst this
      exact q _ _ (k.dup m2 rfl)
    · subst z2
      have : ys = [] := by have := r2.length; cases ys <;> simp_all
      subst this
      rw [List.append_nil] at q
      exact q _ _ (k.dup m1 rfl)
    · have e2 : Same H (upd H t (.tup (vs ++ ws))) := My.same_new ht _
      have ft : F t = none := by
        cases kk : F t with
        | none => rfl
        | some u => have := s _ _ kk; rw [ht] at this; cases this
      have ef : Same F (upd F t (.tup (vs ++ ws))) := My.same_new ft _
      refine q _ _ ?_
      have np : t ∉ fpOf l := fp_new o ht
      refine ⟨upd F t (.tup (vs ++ ws)), fun b u kk => ?_, fun x hx => ?_, by rw [fpOf_fz rfl]; exact n, fun q' hq => ?_⟩
      · by_cases eb : b = t
        · subst eb; rw [upd_same] at kk ⊢; exact kk
        · rw [upd_ne eb] at kk ⊢; exact s _ _ kk
      · rcases List.mem_cons.mp hx with rfl | hx
        · exact ⟨t, vs ++ ws, rfl, SqT.of (by simp only [PV.own, PV.fl, Bool.false_eq_true, if_false]; exact upd_same), (r1.append r2).mono ef⟩
        · exact (o x hx).mono e2 ef
      · rw [fpOf_fz rfl] at hq
        rw [upd_ne (show q' ≠ t from fun z => np (by rw [← z]; exact hq))]
        exact d q' hq
  · rename_i o1 xs o2 ys
    split at e <;> cases e
    rename_i hl
    obtain ⟨p, vs, rfl, h1, l1, _⟩ := k.g_lst m1
    obtain ⟨p2, ws, rfl, h2, l2, _⟩ := k.g_lst m2
    refine .inr (.inr ⟨p, p2, vs, ws, rfl, rfl, h1, h2, lim_le (by rw [l1, l2]; exact hl), fun t ht => q _ _ ?_⟩)
    refine Hold.new_own k ht (a := .lst .ow (xs ++ ys)) rfl fun F s o => ?_
    have a1 := o _ m1
    have a2 := o _ m2
    have g1 : Reps T F xs vs := by
      unfold Own at a1
      obtain ⟨p', vs', ev, h', r'⟩ := a1
      cases ev
      have : some (HO.lst vs') = some (HO.lst vs) := by
        split at h'
        · rw [← h', ← h1]
        · rw [← s _ _ h', ← h1]
      cases this; exact r'
    have g2 : Reps T F ys ws := by
      unfold Own at a2
      obtain ⟨p', vs', ev, h', r'⟩ := a2
      cases ev
      have : some (HO.lst vs') = some (HO.lst ws) := by
        split at h'
        · rw [← h', ← h2]
        · rw [← s _ _ h', ← h2]
      cases this; exact r'
    exact ⟨t, vs ++ ws, rfl, upd_same, g1.append g2⟩
end
/-- a list's items, whatever frozen heap -/
theorem reps_lst {T : Tb} {H F : Hp} {l : Its} {o : Fl} {xs : List PV} {p : Addr} {vs : List V} (s : Same F H) (ow : ∀ x ∈ l, Own T H F x.1 x.2) (m : (PV.lst o xs, V.ref p) ∈ l) (h : H p = some (.lst vs)) : Reps T F xs vs := by
  have a1 := ow _ m
  unfold Own at a1
  obtain ⟨p', vs', ev, h', r'⟩ := a1
  cases ev
  have : some (HO.lst vs') = some (HO.lst vs) := by
    split at h'
    · rw [← h', ← h]
    · rw [← s _ _ h', ← h]
  cases this; exact r'
theorem reps_obj {T : Tb} {H F : Hp} {l : Its} {o : Fl} {c : String} {xs : List PV} {p dx : Addr} {vs : List V} (s : Same F H) (ow : ∀ x ∈ l, Own T H F x.1 x.2) (m : (PV.obj o c xs, V.ref p) ∈ l)
    (h : H p = some (.ins (T.ca c) dx ((T.flds c).zip vs))) (hl : vs.length ≤ (T.flds c).length) : Reps T F xs vs := by
  have a1 := ow _ m
  unfold Own at a1
  obtain ⟨p', dx', vs', ev, h', hl', r'⟩ := a1
  cases ev
  have : some (HO.ins (T.ca c) dx' ((T.flds c).zip vs')) = some (HO.ins (T.ca c) dx ((T.flds c).zip vs)) := by
    split at h'
    · rw [← h', ← h]
    · rw [← s _ _ h', ← h]
  injection this with e1
  injection e1 with e2 e3 e4
  have : vs' = vs := by
    have z := congrArg (List.map Prod.snd) e4
    rw [List.map_snd_zip hl', List.map_snd_zip hl] at z
    exact z
  subst this; exact r'
theorem reps_dK {T : Tb} {H F : Hp} {l : Its} {o : Fl} {ks : List Key} {xs : List PV} {p : Addr} {kvs : List (Key × V)} (s : Same F H) (ow : ∀ x ∈ l, Own T H F x.1 x.2) (m : (PV.dK o ks xs, V.ref p) ∈ l)
    (h : H p = some (.dK kvs)) : ∃ vs, kvs = ks.zip vs ∧ ks.length = vs.length ∧ Reps T F xs vs := by
  have a1 := ow _ m
  unfold Own at a1
  obtain ⟨p', vs', ev, h', hl', r'⟩ := a1
  cases ev
  have : some (HO.dK (ks.zip vs')) = some (HO.dK kvs) := by
    split at h'
    · rw [← h', ← h]
    · rw [← s _ _ h', ← h]
  cases this; exact ⟨vs', rfl, hl', r'⟩
end VL

set_option Elab.async false
set_option linter.all false
set_option maxRecDepth 100000
/-! ==, in, items, slices, attributes, built-ins by values. -/
namespace VL
open PySem PySem.Spec PyProof.Rows L2

/-! ### values as data -/
def dat : PV → PyData
  | .non => .none
  | .bl b => .bool b
  | .int i => .int i
  | .str x => .str x
  | .tup xs => .tuple (xs.map dat)
  | .lst _ xs => .list (xs.map dat)
  | .scr ns => .list (ns.map .int)
  | .emp | .dK _ _ _ | .dT _ _ _ | .obj _ _ _ | .ty _ | .cls _ | .err _ _ _ => .dict []
@[simp] theorem dat_non : dat .non = .none := by simp only [dat]
@[simp] theorem dat_bl (b : Bool) : dat (.bl b) = .bool b := by simp only [dat]
@[simp] theorem dat_int (i : Int) : dat (.int i) = .int i := by simp only [dat]
@[simp] theorem dat_str (x : Str) : dat (.str x) = .str x := by simp only [dat]
@[simp] theorem dat_tup (xs : List PV) : dat (.tup xs) = .tuple (xs.map dat) := by simp only [dat]
@[simp] theorem dat_lst (o : Fl) (xs : List PV) : dat (.lst o xs) = .list (xs.map dat) := by simp only [dat]
theorem canAll {xs : List PyData} : PyData.canLayAll0 xs = true ↔ ∀ d ∈ xs, d.canLay0 = true := by
  induction xs with
  | nil => simp [PyData.canLayAll0]
  | cons x xs ih => simp [PyData.canLayAll0, ih]
theorem depAll {xs : List PyData} {n : Nat} : PyData.depthAll xs ≤ n ↔ ∀ d ∈ xs, d.depth ≤ n := by
  induction xs with
  | nil => simp [PyData.depthAll]
  | cons x xs ih => simp only [PyData.depthAll, List.mem_cons, forall_eq_or_imp, ← ih]; omega
theorem eqv_all {xs ys : List PyData} : PyData.eqvAll xs ys = (decide (xs.length = ys.length) && (xs.zip ys).all fun p => PyData.eqv p.1 p.2) := by
  induction xs generalizing ys with
  | nil => cases ys <;> simp [PyData.eqvAll]
  | cons x xs ih =>
    cases ys with
    | nil => simp [PyData.eqvAll]
    | cons y ys =>
      simp only [PyData.eqvAll, ih, List.length_cons, List.zip_cons_cons, List.all_cons, Nat.add_right_cancel_iff]
      cases PyData.eqv x y <;> cases decide (xs.length = ys.length) <;> rfl
section
variable {T : Tb} {H F : Hp}
mutual
theorem Rep.dp (s : Same F H) : ∀ {a : PV} {v : V}, Rep T F a v → (dat a).canLay0 = true → Dp T.K H v (dat a)
  | .non, _, h, _ => by simp only [Rep] at h; subst h; simp only [dat]; exact .non
  | .bl _, _, h, _ => by simp only [Rep] at h; subst h; simp only [dat]; exact .bl _
  | .int _, _, h, _ => by simp only [Rep] at h; subst h; simp only [dat]; exact .int _
  | .str _, _, h, _ => by simp only [Rep] at h; subst h; simp only [dat]; exact .str _
  | .tup xs, _, h, c => by
    simp only [Rep] at h
    obtain ⟨p, vs, rfl, h1, h2⟩ := h
    simp only [dat_tup] at c ⊢
    exact .tup (s.seqT h1) (Reps.dp s h2 (by simpa only [PyData.canLay0] using c))
  | .lst _ xs, _, h, c => by
    simp only [Rep] at h
    obtain ⟨p, vs, rfl, h1, h2⟩ := h
    simp only [dat_lst] at c ⊢
    exact .lst (SqL.of (s _ _ h1)) (Reps.dp s h2 (by simpa only [PyData.canLay0] using c))
  | .scr ns, _, h, _ => by
    simp only [Rep] at h
    obtain ⟨p, rfl, h1⟩ := h
    simp only [dat]
    exact .lst (s.seq h1) (My.dpInts ns)
  | .emp, _, _, c => by simp [dat, PyData.canLay0] at c
  | .dK _ _ _, _, _, c => by simp [dat, PyData.canLay0] at c
  | .dT _ _ _, _, _, c => by simp [dat, PyData.canLay0] at c
  | .obj _ _ _, _, _, c => by simp [dat, PyData.canLay0] at c
  | .ty _, _, _, c => by simp [dat, PyData.canLay0] at c
  | .cls _, _, _, c => by simp [dat, PyData.canLay0] at c
  | .err _ _ _, _, _, c => by simp [dat, PyData.canLay0] at c
theorem Reps.dp (s : Same F H) : ∀ {xs : List PV} {vs : List V}, Reps T F xs vs → PyData.canLayAll0 (xs.map dat) = true → DpAll T.K H vs (xs.map dat)
  | [], _, h, _ => by simp only [Reps] at h; subst h; exact .nil
  | x :: xs, _, h, c => by
    obtain ⟨v, vs', rfl, h1, _, h2⟩ := h.inv
    simp only [List.map_cons, PyData.canLayAll0, Bool.and_eq_true] at c
    exact .cons (Rep.dp s h1 c.1) (Reps.dp s h2 c.2)
end
theorem Hold.dp {l : Its} {a : PV} {v : V} (h : Hold T H l) (m : (a, v) ∈ l) (c : (dat a).canLay0 = true) : Dp T.K H v (dat a) := by
  obtain ⟨F, s, r, _⟩ := h.get m
  cases a with
  | lst o xs =>
    obtain ⟨p, vs, rfl, h1, h2⟩ := r
    simp only [dat_lst] at c ⊢
    exact .lst (SqL.of h1) (h2.dp s (by simpa only [PyData.canLay0] using c))
  | non => cases r; simp only [dat]; exact .non
  | bl _ => cases r; simp only [dat]; exact .bl _
  | int _ => cases r; simp only [dat]; exact .int _
  | str _ => cases r; simp only [dat]; exact .str _
  | tup xs =>
    obtain ⟨p, vs, rfl, h1, h2⟩ := r
    simp only [dat_tup] at c ⊢
    exact .tup h1 (h2.dp s (by simpa only [PyData.canLay0] using c))
  | scr ns =>
    obtain ⟨p, rfl, h1⟩ := r
    simp only [dat]
    exact .lst h1 (My.dpInts ns)
  | _ => simp [dat, PyData.canLay0] at c
end
def laid (a : PV) : Bool := SeqAt.shaped (dat a)
theorem laid_can {a : PV} (h : laid a = true) : (dat a).canLay0 = true := SeqAt.canLay_of_shaped h
def oEq (neg : Bool) (a b : PV) : Option PV := if (laid a && laid b) = true then some (.bl (neg != PyData.eqv (dat a) (dat b))) else none
def oIs (neg : Bool) : PV → PV → Option PV
  | .emp, _ => none
  | .non, .non => some (.bl (!neg))
  | _, .non => some (.bl neg)
  | _, _ => none
def flat : PV → Bool
  | .non | .bl _ | .int _ | .str _ => true
  | _ => false
def hasIn (xs : List PV) (x : PV) : Bool := xs.any fun z => PyData.eqv (dat z) (dat x)
def oIn (neg : Bool) (x : PV) : PV → Option PV
  | .lst o ys => if ((flat x && ys.all flat) || (laid x && laid (.lst o ys))) = true then some (.bl (neg != hasIn ys x)) else none
  | .tup ys => if (flat x && ys.all flat) = true then some (.bl (neg != hasIn ys x)) else none
  | .str y => match x with
    | .str z => some (.bl (neg != !(Builtin.Str.occurrences y z 0 y.length 1).isEmpty))
    | _ => none
  | _ => none
section
variable {T : Tb} {X : Cx}
theorem v_eq : Opv T (oEq false) (rEqD T.K) := by
  intro H l a b c v w Q k m1 m2 e q
  unfold oEq at e
  split at e
  · rename_i hc
    cases e
    rw [Bool.and_eq_true] at hc
    refine ⟨dat a, dat b, k.dp m1 (laid_can hc.1), k.dp m2 (laid_can hc.2), hc.1, hc.2, ?_⟩
    have := q (.bl (PyData.eqv (dat a) (dat b))) H (by simpa using k.bl (b := PyData.eqv (dat a) (dat b)))
    exact this
  · cases e
theorem v_ne : Opv T (oEq true) (rNeD T.K) := by
  intro H l a b c v w Q k m1 m2 e q
  unfold oEq at e
  split at e
  · rename_i hc
    cases e
    rw [Bool.and_eq_true] at hc
    refine ⟨dat a, dat b, k.dp m1 (laid_can hc.1), k.dp m2 (laid_can hc.2), hc.1, hc.2, ?_⟩
    exact q (.bl (!PyData.eqv (dat a) (dat b))) H (by simpa using k.bl (b := !PyData.eqv (dat a) (dat b)))
  · cases e
theorem Hold.isNon {H : Hp} {l : Its} {a : PV} {v : V} (k : Hold T H l) (m : (a, v) ∈ l) (he : a ≠ .emp) : (v = .non ↔ a = .non) := by
  obtain ⟨F, s, r, _⟩ := k.get m
  cases a with
  | emp => exact absurd rfl he
  | non => cases r; exact ⟨fun _ => rfl, fun _ => rfl⟩
  | bl _ => cases r; exact ⟨(fun z => nomatch z), (fun z => nomatch z)⟩
  | int _ => cases r; exact ⟨(fun z => nomatch z), (fun z => nomatch z)⟩
  | str _ => cases r; exact ⟨(fun z => nomatch z), (fun z => nomatch z)⟩
  | tup _ => obtain ⟨p, vs, rfl, _⟩ := r; exact ⟨(fun z => nomatch z), (fun z => nomatch z)⟩
  | lst _ _ => obtain ⟨p, vs, rfl, _⟩ := r; exact ⟨(fun z => nomatch z), (fun z => nomatch z)⟩
  | err _ _ _ => obtain ⟨p, vs, rfl, _⟩ := r; exact ⟨(fun z => nomatch z), (fun z => nomatch z)⟩
  | dK _ _ _ => obtain ⟨p, vs, rfl, _⟩ := r; exact ⟨(fun z => nomatch z), (fun z => nomatch z)⟩
  | dT _ _ _ => obtain ⟨p, vs, rfl, _⟩ := r; exact ⟨(fun z => nomatch z), (fun z => nomatch z)⟩
  | obj _ _ _ => obtain ⟨p, dx, vs, rfl, _⟩ := r; exact ⟨(fun z => nomatch z), (fun z => nomatch z)⟩
  | scr _ => obtain ⟨p, rfl, _⟩ := r; exact ⟨(fun z => nomatch z), (fun z => nomatch z)⟩
  | ty _ => cases r; exact ⟨(fun z => nomatch z), (fun z => nomatch z)⟩
  | cls _ => cases r; exact ⟨(fun z => nomatch z), (fun z => nomatch z)⟩
theorem oIs_some {neg : Bool} {a b c : PV} (e : oIs neg a b = some c) : a ≠ .emp ∧ b = .non ∧ ((a = .non ∧ c = .bl (!neg)) ∨ (a ≠ .non ∧ c = .bl neg)) := by
  cases b with
  | non =>
    cases a <;> simp only [oIs] at e <;> cases e <;> refine ⟨(fun z => nomatch z), rfl, ?_⟩ <;> first | exact .inl ⟨rfl, rfl⟩ | exact .inr ⟨(fun z => nomatch z), rfl⟩
  | _ => cases a <;> simp [oIs] at e
theorem v_is : Opv T (oIs false) (fun x y H Q => y = .non ∧ Q (.bl (decide (x = .non))) H) := by
  intro H l a b c v w Q k m1 m2 e q
  obtain ⟨n1, rfl, h⟩ := oIs_some e
  have hn := k.isNon m1 n1
  refine ⟨k.g_non m2, q _ _ ?_⟩
  rcases h with ⟨rfl, rfl⟩ | ⟨n2, rfl⟩
  · rw [hn.mpr rfl]; exact k.bl
  · rw [decide_eq_false (fun z => n2 (hn.mp z))]; exact k.bl
theorem v_isn : Opv T (oIs true) (fun x y H Q => y = .non ∧ Q (.bl (!decide (x = .non))) H) := by
  intro H l a b c v w Q k m1 m2 e q
  obtain ⟨n1, rfl, h⟩ := oIs_some e
  have hn := k.isNon m1 n1
  refine ⟨k.g_non m2, q _ _ ?_⟩
  rcases h with ⟨rfl, rfl⟩ | ⟨n2, rfl⟩
  · rw [hn.mpr rfl]; exact k.bl
  · rw [decide_eq_false (fun z => n2 (hn.mp z))]; exact k.bl
theorem rep_flat {F : Hp} {a : PV} {v : V} (h : Rep T F a v) (f : flat a = true) : flatV v = true := by
  cases a <;> simp [flat] at f <;> simp only [Rep] at h <;> subst h <;> rfl
theorem eqV_dat {F : Hp} {a b : PV} {v w : V} (h : Rep T F a v) (h' : Rep T F b w) (f : flat a = true) (f' : flat b = true) : eqV v w = PyData.eqv (dat a) (dat b) := by
  cases a <;> simp [flat] at f <;> cases b <;> simp [flat] at f' <;> simp only [Rep] at h h' <;> subst h <;> subst h' <;> simp [dat, eqV, PyData.eqv]
theorem inV_dat {F : Hp} {x : PV} {v : V} (h : Rep T F x v) (f : flat x = true) : ∀ {ys : List PV} {vs : List V}, Reps T F ys vs → ys.all flat = true → vs.all flatV = true ∧ inV v vs = hasIn ys x
  | [], _, r, _ => by simp only [Reps] at r; subst r; exact ⟨rfl, rfl⟩
  | y :: ys, _, r, a => by
    obtain ⟨w, ws, rfl, h1, _, h2⟩ := r.inv
    simp only [List.all_cons, Bool.and_eq_true] at a
    obtain ⟨q1, q2⟩ := inV_dat h f h2 a.2
    refine ⟨by simp [rep_flat h1 a.1, q1], ?_⟩
    show (eqV w v || inV v ws) = _
    rw [q2, eqV_dat h1 h a.1 f]
    rfl
def rInA (K : PySem.W.Frag) (neg : Bool) : R2 := fun x y H Q => (rIn K neg x y H Q ∨ (if neg = true then rNotInD K x y H Q else rInD K x y H Q)) ∨ ∃ i j, x = .str i ∧ y = .str j ∧ Q (.bl (neg != !(Builtin.Str.occurrences j i 0 j.length 1).isEmpty)) H
theorem o_in (hu : X.A.units + 65 < cLine) : OpR X (compareOp .In) (rInA X.K false) := op_or2 (op_or2 op_in_seq (op_inD hu)) (by
  intro pins s σ H x y v u Q I rx ry ⟨i, j, h1, h2, q⟩
  exact op_in_str pins s σ H x y v u Q I rx ry ⟨i, j, h1, h2, by simpa using q⟩)
theorem o_notIn (hu : X.A.units + 65 < cLine) : OpR X (compareOp .NotIn) (rInA X.K true) := op_or2 (op_or2 op_notIn_seq (op_notInD hu)) (by
  intro pins s σ H x y v u Q I rx ry ⟨i, j, h1, h2, q⟩
  exact op_notIn_str pins s σ H x y v u Q I rx ry ⟨i, j, h1, h2, by simpa using q⟩)
theorem Hold.repF {H : Hp} {l : Its} {a : PV} {v : V} (k : Hold T H l) (m : (a, v) ∈ l) (f : flat a = true) (F : Hp) : Rep T F a v := by
  obtain ⟨_, _, r, _⟩ := k.get m
  cases a <;> simp [flat] at f <;> simp only [Rep] <;> exact r
theorem v_in {neg : Bool} : Opv T (oIn neg) (rInA T.K neg) := by
  intro H l a b c v w Q k m1 m2 e q
  cases b with
  | lst o ys =>
    simp only [oIn] at e
    split at e
    · rename_i hc
      cases e
      obtain ⟨p, vs, rfl, h1, l1, F, s, r⟩ := k.g_lst m2
      simp only [Bool.or_eq_true, Bool.and_eq_true] at hc
      rcases hc with ⟨f1, f2⟩ | ⟨d1, d2⟩
      · obtain ⟨q1, q2⟩ := inV_dat (k.repF m1 f1 F) f1 r f2
        refine .inl (.inl ⟨p, vs, rfl, .inl (SqL.of h1), rep_flat (k.repF m1 f1 F) f1, q1, q _ _ ?_⟩)
        rw [q2]
        cases neg
        · simpa using k.bl (b := hasIn ys a)
        · simpa using k.bl (b := !hasIn ys a)
      · refine .inl (.inr ?_)
        have e1 := k.dp m1 (laid_can d1)
        have e2 := k.dp m2 (laid_can d2)
        have e3 : hasIn ys a = (ys.map dat).any fun z => PyData.eqv z (dat a) := by unfold hasIn; rw [List.any_map]; rfl
        rw [dat_lst] at e2
        unfold laid at d1 d2
        rw [dat_lst] at d2
        cases neg
        · simp only [Bool.false_eq_true, if_false]
          refine ⟨dat a, ys.map dat, e1, e2, d1, d2, q _ _ ?_⟩
          rw [← e3]
          simpa using k.bl (b := hasIn ys a)
        · simp only [if_true]
          refine ⟨dat a, ys.map dat, e1, e2, d1, d2, q _ _ ?_⟩
          rw [← e3]
          simpa using k.bl (b := !hasIn ys a)
    · cases e
  | tup ys =>
    simp only [oIn] at e
    split at e
    · rename_i hc
      cases e
      obtain ⟨p, vs, rfl, h1, l1, F, s, r⟩ := k.g_tup m2
      simp only [Bool.and_eq_true] at hc
      obtain ⟨f1, f2⟩ := hc
      obtain ⟨q1, q2⟩ := inV_dat (k.repF m1 f1 F) f1 r f2
      refine .inl (.inl ⟨p, vs, rfl, .inr h1, rep_flat (k.repF m1 f1 F) f1, q1, q _ _ ?_⟩)
      rw [q2]
      cases neg
      · simpa using k.bl (b := hasIn ys a)
      · simpa using k.bl (b := !hasIn ys a)
    · cases e
  | str y =>
    cases a with
    | str z =>
      simp only [oIn] at e
      cases e
      exact .inr ⟨z, y, k.g_str m1, k.g_str m2, q _ _ k.bl⟩
    | _ => simp [oIn] at e
  | _ => simp [oIn] at e

/-! ### * -/
def oMul : PV → PV → Option PV
  | .int i, .int j => if cMul i j = true then some (.int (i * j)) else none
  | .lst _ xs, .int k => if k ≤ (lim : Nat) ∧ -(2 ^ 63) ≤ k ∧ xs.length * k.toNat ≤ lim then some (.lst .ow (List.replicate k.toNat xs).flatten) else none
  | _, _ => none
theorem Reps.rep {F : Hp} {xs : List PV} {vs : List V} (r : Reps T F xs vs) : ∀ n : Nat, Reps T F (List.replicate n xs).flatten (List.replicate n vs).flatten
  | 0 => .nil
  | n + 1 => by rw [List.replicate_succ, List.replicate_succ, List.flatten_cons, List.flatten_cons]; exact r.append (Reps.rep r n)
def rMulA : R2 := fun x y H Q => rI CMul (fun i j => .int (i * j)) x y H Q ∨ rRep x y H Q
theorem o_mul : OpR X (binaryOp .Mult) rMulA := op_or2 op_mul op_rep
theorem v_mul : Opv T oMul rMulA := by
  intro H l a b c v w Q k m1 m2 e q
  cases a <;> cases b <;> simp only [oMul] at e <;> try cases e
  · rename_i i j
    split at e <;> cases e
    rename_i hc
    exact .inl ⟨i, j, k.g_int m1, k.g_int m2, (show (-(2 ^ 64) < i ∧ i < 2 ^ 64) ∨ (-(2 ^ 64) < j ∧ j < 2 ^ 64) from of_decide_eq_true hc), q _ _ k.int⟩
  · rename_i o xs n
    split at e <;> cases e
    rename_i hc
    obtain ⟨p, vs, rfl, h1, l1, _⟩ := k.g_lst m1
    have hl : (lim : Nat) = 100000 := rfl
    refine .inr ⟨p, n, vs, rfl, k.g_int m2, h1, hc.2.1, by have := hc.1; rw [hl] at this; omega, lim_le (by rw [l1]; exact hc.2.2), fun t ht => q _ _ ?_⟩
    exact Hold.new_own k ht rfl fun F s o => ⟨t, _, rfl, upd_same, (reps_lst s o m1 h1).rep _⟩

/-! ### items -/
def oIx : PV → PV → Option PV
  | .lst _ xs, .int i => atI xs i
  | .tup xs, .int i => atI xs i
  | .scr ns, .int i => (atI ns i).map .int
  | .str z, .int i => if z.length ≤ lim then (atI z.cps.toList i).map fun c => .str ⟨#[c]⟩ else none
  | _, _ => none
theorem atI_reps {F : Hp} {xs : List PV} {vs : List V} {i : Int} {c : PV} (r : Reps T F xs vs) (e : atI xs i = some c) : ∃ w, atI vs i = some w ∧ Rep T F c w ∧ c.own = false := by
  unfold atI at e ⊢
  rw [r.length]
  cases h : ixN xs.length i with
  | none => rw [h] at e; cases e
  | some j =>
    rw [h] at e
    obtain ⟨w, h1, h2, h3⟩ := r.at (i := j) e
    exact ⟨w, h1, h2, h3⟩
theorem atI_map {α β : Type} (f : α → β) (xs : List α) (i : Int) : atI (xs.map f) i = (atI xs i).map f := by
  unfold atI
  rw [List.length_map]
  cases ixN xs.length i with
  | none => rfl
  | some j => simp
theorem ix_seqA : IxR X (rIx X.K) := My.ix_seqK rfl
theorem v_ix : Opv T oIx (rIx T.K) := by
  intro H l a b c v w Q k m1 m2 e q
  have kk := k
  obtain ⟨F, s, o, n, d⟩ := k
  cases a <;> cases b <;> simp only [oIx] at e <;> try cases e
  · rename_i z i
    split at e
    · rename_i hl
      cases h : atI z.cps.toList i with
      | none => rw [h] at e; cases e
      | some c' =>
        rw [h] at e; cases e
        exact .inr (.inr ⟨z, i, c', kk.g_str m1, kk.g_int m2, lim_le hl, h, q _ _ kk.str⟩)
    · cases e
  · rename_i xs i
    obtain ⟨p, vs, rfl, h1, r⟩ := o _ m1
    simp only [PV.own, PV.fl, Bool.false_eq_true, if_false] at h1
    obtain ⟨w', e1, e2, e3⟩ := atI_reps r e
    refine .inr (.inl ⟨p, vs, i, w', rfl, kk.g_int m2, s.seqT h1, e1, q _ _ ⟨F, s, fun x hx => ?_, by rw [fpOf_fz e3]; exact n, by rw [fpOf_fz e3]; exact d⟩⟩)
    rcases List.mem_cons.mp hx with rfl | hx
    · exact (Own.fz e3).mpr e2
    · exact o x hx
  · rename_i fl xs i
    obtain ⟨p, vs, rfl, h1, _⟩ := kk.g_lst m1
    obtain ⟨w', e1, e2, e3⟩ := atI_reps (reps_lst s o m1 h1) e
    refine .inl ⟨p, vs, i, w', rfl, kk.g_int m2, SqL.of h1, e1, q _ _ ⟨F, s, fun x hx => ?_, by rw [fpOf_fz e3]; exact n, by rw [fpOf_fz e3]; exact d⟩⟩
    rcases List.mem_cons.mp hx with rfl | hx
    · exact (Own.fz e3).mpr e2
    · exact o x hx
  · rename_i ns i
    obtain ⟨_, s', ⟨p, rfl, h1⟩, _⟩ := kk.get m1
    cases h : atI ns i with
    | none => rw [h] at e; cases e
    | some c' =>
      rw [h] at e; cases e
      refine .inl ⟨p, _, i, .int c', rfl, kk.g_int m2, h1, by rw [atI_map, h]; rfl, q _ _ kk.int⟩
end
section
variable {g : G} {X : Cx} {a b : Expr} {fa fb : M Hd} {pos : Pos} {op : PV → PV → Option PV} {r : R2}
theorem ev_ix (hr : IxR X r) (hg : Opv g.T op r) (ha : EV g X a fa) (hb : EV g X b fb) (hs : PlainIx b) : EV g X (.Subscript a b pos) (eBin op fa fb) :=
  ev_of (pe_ix hr ha hb hs) fun σ H Q ρ τ f h hP => two f h hP fun h1 h2 ρ2 hP2 v w H2 l f2 s1 s2 el k m1 m2 dn => by
    cases e : op (hv ρ2 h1) (hv ρ2 h2) with
    | none => rw [e] at hP2; exact hP2.elim
    | some c =>
      rw [e] at hP2
      exact hg H2 l _ _ c v w Q k m1 m2 e fun z H' k' => hP2 z H' f2 slot_tm (dn c z H' k')

/-! ### attributes -/
def oAt (c : String) (i : Nat) : PV → Option PV
  | .obj _ c' xs => if c' = c then xs[i]? else none
  | _ => none
theorem zip_lookup : ∀ {ns : List Str} {vs : List V} {i : Nat} {f : Str} {v : V}, ns.Nodup → ns[i]? = some f → vs[i]? = some v → (ns.zip vs).lookup f = some v
  | [], _, _, _, _, _, e, _ => by simp at e
  | _ :: _, [], _, _, _, _, _, e => by simp at e
  | n :: ns, w :: vs, 0, f, v, _, e, e' => by
    simp at e e'; subst e; subst e'
    simp [List.zip_cons_cons, List.lookup_cons]
  | n :: ns, w :: vs, i + 1, f, v, nd, e, e' => by
    simp at e e'
    have h := zip_lookup (List.nodup_cons.mp nd).2 e e'
    have ne : f ≠ n := fun z => (List.nodup_cons.mp nd).1 (by rw [← z]; exact List.mem_of_getElem? e)
    rw [List.zip_cons_cons, List.lookup_cons]
    have : (f == n) = false := by simpa using ne
    rw [this]; exact h
theorem ev_at {c : String} {i : Nat} {f : Str} (hK : X.K = g.T.K) (cl : Cls g.T.K (g.T.ca c)) (na : NoAttr g.T.K (g.T.ca c) f) (hi : (g.T.flds c)[i]? = some f) (nd : (g.T.flds c).Nodup) (ha : EV g X a fa)
    (hb : attributeBase a f X.env (eval a X.env) = eval a X.env := by rfl) : EV g X (.Attribute a f pos) (eUn (oAt c i) fa) :=
  ev_of (pe_fld ha hb) fun σ H Q ρ τ ft h hP => stepE (ε := []) ft (nilT h) hP fun h1 ρ1 hP1 v H1 f1 s1 k1 => by
    rw [List.nil_append] at k1
    cases e : oAt c i (hv ρ1 h1) with
    | none => rw [e] at hP1; exact hP1.elim
    | some d =>
      rw [e] at hP1
      have m := mem_hv (τ := τ) f1 s1
      cases e2 : hv ρ1 h1 <;> rw [e2] at e m <;> simp only [oAt] at e <;> try cases e
      rename_i o c' xs
      split at e
      · rename_i hc
        subst hc
        obtain ⟨p, dx, vs, rfl, hp, hl, ll⟩ := k1.g_obj m
        have kk := k1
        obtain ⟨F, s, ow, n, dd⟩ := k1
        obtain ⟨w, e3, e4, e5⟩ := (reps_obj s ow m hp hl).at e
        refine ⟨p, g.T.ca c', dx, _, w, rfl, hp, by rw [hK]; exact cl, by rw [hK]; exact na, zip_lookup nd hi e3, hP1 w H1 f1 slot_tm ?_⟩
        have : Hold g.T H1 ((d, w) :: (hit h1 (.ref p) ++ (its ρ1 σ ++ τ))) := ⟨F, s, fun x hx => (by
          rcases List.mem_cons.mp hx with rfl | hx
          · exact (Own.fz e5).mpr e4
          · exact ow x hx), by rw [fpOf_fz e5]; exact n, by rw [fpOf_fz e5]; exact dd⟩
        exact this.sub (.cons_cons _ (List.sublist_append_right ..))
      · cases e
end
end VL

set_option Elab.async false
set_option linter.all false
set_option maxRecDepth 100000
/-! Slices, built-in calls, methods of lists by values. -/
namespace VL
open PySem PySem.Spec PyProof.Rows L2

/-! ### slices -/
def cutL (xs : List PV) (lo hi : Option Int) : List PV := (xs.drop (HT.sIx xs.length 0 lo)).take (HT.sIx xs.length xs.length hi - HT.sIx xs.length 0 lo)
def oCut (a : PV) (lo hi : Option Int) : Option PV :=
  match a with
  | .lst _ xs => some (.lst .ow (cutL xs lo hi))
  | .tup xs => some (.tup (cutL xs lo hi))
  | .str z => if z.length ≤ lim then some (.str (cutS z lo hi)) else none
  | _ => none
def part : Option (M Hd) → M (Option Int)
  | none => fun ρ => .ok none ρ
  | some f => fun ρ => (f ρ).bind fun h ρ1 => match hv ρ1 h with
    | .int i => .ok (some i) ρ1
    | _ => .stuck
def eSl (fa : M Hd) (fl fh : Option (M Hd)) : M Hd := fun ρ => (fa ρ).bind fun h ρ1 => (part fl ρ1).bind fun l ρ2 => (part fh ρ2).bind fun u ρ3 => ofO ρ3 (oCut (hv ρ3 h) l u)
def PO1 (g : G) (σ : L2.St) (τ : Its) (Q : Option Int → Hp → Prop) (o : Option Int) (ρ : List PV) : Prop := ∀ H', Fits g.s0 ρ σ → Hold g.T H' (its ρ σ ++ τ) → Q o H'
def trO (g : G) (f : M (Option Int)) : TO := fun σ H Q => ∃ ρ τ, Fits g.s0 ρ σ ∧ Hold g.T H (its ρ σ ++ τ) ∧ Post g σ τ (PO1 g σ τ Q) (f ρ)
abbrev OV (g : G) (X : Cx) (e : Option Expr) (f : Option (M Hd)) : Prop := PO X e (trO g (part f))
theorem reps_cut {T : Tb} {F : Hp} {xs : List PV} {vs : List V} (r : Reps T F xs vs) (lo hi : Option Int) : Reps T F (cutL xs lo hi) (cutV vs lo hi) := by
  unfold cutL cutV
  rw [r.length]
  exact (r.drop _).take _
section
variable {g : G} {X : Cx} {e : Expr} {fa : M Hd} {pos p2 : Pos} {lo hi : Option Expr} {fl fh : Option (M Hd)} {α : Type}
theorem ov_none : OV g X none none := ⟨fun pins s σ H Q I ⟨ρ, τ, f, h, hP⟩ => (po_none (X := X)).run pins s σ H Q I (hP H f h)⟩
theorem ov_some (ha : EV g X e fa) : OV g X (some e) (some fa) := ⟨fun pins s σ H Q I ⟨ρ, τ, f, h, hP⟩ => (po_some ha).run pins s σ H Q I (stepE (ε := []) f (nilT h) hP fun h1 ρ1 hP1 v H1 f1 s1 k1 => by
  rw [List.nil_append] at k1
  have m := mem_hv (τ := τ) f1 s1
  cases e2 : hv ρ1 h1 <;> simp only [e2] at hP1 m <;> try exact hP1.elim
  rename_i i
  exact ⟨i, k1.g_int m, hP1 H1 f1 k1.right⟩)⟩
theorem stepO {P : α → List PV → Prop} {k : Option Int → M α} {Q' : Option Int → Hp → Prop} {σ : L2.St} {H : Hp} {ρ : List PV} {τ ε : Its} {ft : M (Option Int)} (fit : Fits g.s0 ρ σ) (hold : Hold g.T H (its ρ σ ++ (ε ++ τ))) (hP : Post g σ τ P ((ft ρ).bind k))
    (hk : ∀ b ρ1, Post g σ τ P (k b ρ1) → ∀ H1, Fits g.s0 ρ1 σ → Hold g.T H1 (its ρ1 σ ++ (ε ++ τ)) → Q' b H1) : trO g ft σ H Q' := by
  refine ⟨ρ, ε ++ τ, fit, hold, ?_⟩
  cases e : ft ρ with
  | ok h ρ1 => rw [e] at hP; exact hk h ρ1 hP
  | exc c xs ρ1 => rw [e] at hP; exact exc_more hP
  | stuck => rw [e] at hP; exact hP
def rSlAll (K : PySem.W.Frag) : V → Option Int → Option Int → Hp → VK → Prop := fun x lo hi H Q => (rSlL K x lo hi H Q ∨ rSlA K x lo hi H Q) ∨ rSlS x lo hi H Q
theorem sl_all : SlR X (rSlAll X.K) := (sl_list.or sl_tupA).or sl_str
theorem cut_whole {xs : List PV} {lo hi : Option Int} (h : HT.sIx xs.length 0 lo = 0 ∧ HT.sIx xs.length xs.length hi = xs.length) : cutL xs lo hi = xs := by
  unfold cutL
  rw [h.1, h.2]; simp
theorem ev_sl (hK : X.K = g.T.K) (ha : EV g X e fa) (hl : OV g X lo fl) (hh : OV g X hi fh) : EV g X (.Subscript e (.Slice lo hi none p2) pos) (eSl fa fl fh) :=
  ev_of (pe_slice sl_all ha hl hh) fun σ H Q ρ τ f h hP => stepE (ε := []) f (nilT h) hP fun h1 ρ1 hP1 v H1 f1 s1 k1 => by
    rw [List.nil_append] at k1
    refine stepO (ε := hit h1 v) f1 (mid k1) hP1 fun l ρ2 hP2 H2 f2 k2 => ?_
    refine stepO (ε := hit h1 v) f2 k2 hP2 fun u ρ3 hP3 H3 f3 k3 => ?_
    cases e1 : oCut (hv ρ3 h1) l u with
    | none => rw [e1] at hP3; exact hP3.elim
    | some c =>
      rw [e1] at hP3
      have m : (hv ρ3 h1, v) ∈ its ρ3 σ ++ (hit h1 v ++ τ) := mem_of f3 s1 (fun x hx => by simp [hx]) fun x hx => by simp [hx]
      have dn : ∀ {z : V} {H' : Hp}, Hold g.T H' ((c, z) :: (its ρ3 σ ++ (hit h1 v ++ τ))) → Q z H' := fun {z H'} k => hP3 z H' f3 slot_tm (show Hold g.T H' ((c, z) :: (its ρ3 σ ++ τ)) from k.sub (.cons_cons _ (List.Sublist.append_left (List.sublist_append_right (hit h1 v) τ) (its ρ3 σ))))
      cases e2 : hv ρ3 h1 <;> rw [e2] at e1 m <;> simp only [oCut] at e1 <;> try cases e1
      · rename_i z
        split at e1 <;> cases e1
        rename_i hz
        exact .inr ⟨z, k3.g_str m, lim_le hz, dn k3.str⟩
      · rename_i xs
        have kk := k3
        obtain ⟨F, s, o, n, d⟩ := k3
        obtain ⟨p, vs, rfl, hp, r⟩ := o _ m
        simp only [PV.own, PV.fl, Bool.false_eq_true, if_false] at hp
        have hl := r.length
        refine .inl (.inr ⟨p, vs, rfl, by rw [hK]; exact s.seqT hp, fun z => ?_, fun z t ht => ?_⟩)
        · rw [hl] at z
          rw [cut_whole z] at dn
          exact dn (kk.dup m rfl)
        · exact dn (Hold.newF s o n d ht rfl ⟨t, _, rfl, SqT.of upd_same, (reps_cut r l u).mono (same_newF s ht _)⟩)
      · rename_i o' xs
        obtain ⟨p, vs, rfl, hp, hl, _⟩ := k3.g_lst m
        refine .inl (.inl ⟨p, vs, rfl, SqL.of hp, fun t ht => dn ?_⟩)
        exact Hold.new_own k3 ht rfl fun F s o => ⟨t, _, rfl, upd_same, reps_cut (reps_lst s o m hp) l u⟩
end
end VL

set_option Elab.async false
set_option linter.all false
set_option maxRecDepth 100000
/-! Built-in calls and methods by values. -/
namespace VL
open PySem PySem.Spec PyProof.Rows L2

/-! ### calls -/
def oLen : List PV → Option PV
  | [.lst _ xs] => some (.int (xs.length : Nat))
  | [.tup xs] => some (.int (xs.length : Nat))
  | [.scr ns] => some (.int (ns.length : Nat))
  | [.str x] => if x.length ≤ lim then some (.int (x.length : Nat)) else none
  | [.dK _ ks _] => some (.int (ks.length : Nat))
  | _ => none
def oList : List PV → Option PV
  | [.lst _ xs] => some (.lst .ow xs)
  | [.tup xs] => some (.lst .ow xs)
  | [.scr ns] => some (.lst .ow (ns.map .int))
  | _ => none
def oTuple : List PV → Option PV
  | [.lst _ xs] => some (.tup xs)
  | [.tup xs] => some (.tup xs)
  | _ => none
def oInt : List PV → Option PV
  | [.int i] => some (.int i)
  | [.bl b] => some (.int (if b then 1 else 0))
  | _ => none
def oBool : List PV → Option PV
  | [.int i] => some (.bl (i != 0))
  | [.bl b] => some (.bl b)
  | _ => none
def oAbs : List PV → Option PV
  | [.int i] => some (.int (if i < 0 then -i else i))
  | _ => none
def oStr : List PV → Option PV
  | [.int i] => if i.natAbs.log2 < 1920 then some (.str (toString i)) else none
  | _ => none
def oMax2 : List PV → Option PV
  | [.int i, .int j] => some (.int (if j > i then j else i))
  | _ => none
def oMin2 : List PV → Option PV
  | [.int i, .int j] => some (.int (if j < i then j else i))
  | _ => none
/-- a value's built-in type -/
def tyN : PV → String
  | .non => "NoneType"
  | .bl _ => "bool"
  | .int _ => "int"
  | .str _ => "str"
  | .tup _ => "tuple"
  | .lst _ _ => "list"
  | .dK _ _ _ => "dict"
  | .dT _ _ _ => "dict"
  | _ => ""
def oIsi : List PV → Option PV
  | [a, .ty n] => if tyN a = "" then none else (kitB (tyN a) n).map .bl
  | _ => none
section
variable {T : Tb} {X : Cx}
theorem one_arg {as : List PV} {vs : List V} {l : Its} {a : PV} (e : as = [a]) (hl : vs.length = as.length) (m : ∀ x ∈ as.zip vs, x ∈ l) : ∃ v, vs = [v] ∧ (a, v) ∈ l := by
  subst e
  match vs, hl with
  | [v], _ => exact ⟨v, rfl, m _ (by simp)⟩
theorem two_arg {as : List PV} {vs : List V} {l : Its} {a b : PV} (e : as = [a, b]) (hl : vs.length = as.length) (m : ∀ x ∈ as.zip vs, x ∈ l) : ∃ v w, vs = [v, w] ∧ (a, v) ∈ l ∧ (b, w) ∈ l := by
  subst e
  match vs, hl with
  | [v, w], _ => exact ⟨v, w, rfl, m _ (by simp), m _ (by simp)⟩
def rLenA (K : PySem.W.Frag) : List V → Hp → VK → Prop := fun xs H Q => ((∃ p ys, xs = [.ref p] ∧ (SqL K H p ys ∨ SqT K H p ys) ∧ Q (.int ys.length) H) ∨ (∃ z, xs = [.str z] ∧ z.length ≤ sizeLine ∧ Q (.int z.length) H)) ∨ ∃ a kvs, xs = [V.ref a] ∧ H a = some (.dK kvs) ∧ Q (.int kvs.length) H
theorem c_len : CallR X (.builtin "len") (rLenA X.K) := call_or2 (call_or2 call_len_seq call_len_str) call_lenD
theorem f_len : Fnv T oLen (rLenA T.K) := by
  intro H l as c vs Q k hl m0 e q
  unfold oLen at e
  split at e
  · cases e
    obtain ⟨v, rfl, m⟩ := one_arg rfl hl m0
    obtain ⟨p, vs, rfl, h1, l1, _⟩ := k.g_lst m
    refine .inl (.inl ⟨p, vs, rfl, .inl (SqL.of h1), q _ _ ?_⟩)
    rw [l1]; exact k.int
  · cases e
    obtain ⟨v, rfl, m⟩ := one_arg rfl hl m0
    obtain ⟨p, vs, rfl, h1, l1, _⟩ := k.g_tup m
    refine .inl (.inl ⟨p, vs, rfl, .inr h1, q _ _ ?_⟩)
    rw [l1]; exact k.int
  · cases e
    obtain ⟨v, rfl, m⟩ := one_arg rfl hl m0
    obtain ⟨_, _, ⟨p, rfl, h1⟩, _⟩ := k.get m
    refine .inl (.inl ⟨p, _, rfl, .inl h1, q _ _ ?_⟩)
    rw [List.length_map]; exact k.int
  · split at e <;> cases e
    rename_i x hx
    obtain ⟨v, rfl, m⟩ := one_arg rfl hl m0
    exact .inl (.inr ⟨x, by rw [k.g_str m], lim_le hx, q _ _ k.int⟩)
  · cases e
    obtain ⟨v, rfl, m⟩ := one_arg rfl hl m0
    obtain ⟨_, _, ⟨p, vs, rfl, h1, h2, _⟩, _⟩ := k.get m
    refine .inr ⟨p, _, rfl, h1, q _ _ ?_⟩
    rw [List.length_zip, ← h2, Nat.min_self]; exact k.int
  · cases e
theorem f_list : Fnv T oList (fun xs H Q => ∃ p ys, xs = [.ref p] ∧ (SqL T.K H p ys ∨ SqT T.K H p ys) ∧ ∀ l, H l = none → Q (.ref l) (upd H l (.lst ys))) := by
  intro H l as c vs Q k hl m0 e q
  unfold oList at e
  split at e
  · cases e
    obtain ⟨v, rfl, m⟩ := one_arg rfl hl m0
    obtain ⟨p, vs, rfl, h1, l1, _⟩ := k.g_lst m
    exact ⟨p, vs, rfl, .inl (SqL.of h1), fun t ht => q _ _ (Hold.new_own k ht rfl fun F s o => ⟨t, _, rfl, upd_same, reps_lst s o m h1⟩)⟩
  · cases e
    obtain ⟨v, rfl, m⟩ := one_arg rfl hl m0
    have kk := k
    obtain ⟨F, s, o, n, d⟩ := k
    obtain ⟨p, vs, rfl, hp, r⟩ := o _ m
    simp only [PV.own, PV.fl, Bool.false_eq_true, if_false] at hp
    refine ⟨p, vs, rfl, .inr (s.seqT hp), fun t ht => q _ _ ?_⟩
    -- the new list's items lie in this very F
    have e : Same H (upd H t (.lst vs)) := My.same_new ht _
    have np := fp_new o ht
    refine ⟨F, s.trans e, fun x hx => ?_, by rw [fpOf_ow rfl]; exact List.nodup_cons.mpr ⟨np, n⟩, fun q' hq => ?_⟩
    · rcases List.mem_cons.mp hx with rfl | hx
      · exact (Own.ow rfl).mpr ⟨t, vs, rfl, upd_same, r⟩
      · exact (o x hx).mono e (Same.refl F)
    · rw [fpOf_ow rfl] at hq
      rcases List.mem_cons.mp hq with rfl | hq
      · cases kk : F q' with
        | none => rfl
        | some u => have := s _ _ kk; rw [ht] at this; cases this
      · exact d q' hq
  · cases e
    obtain ⟨v, rfl, m⟩ := one_arg rfl hl m0
    obtain ⟨_, _, ⟨p, rfl, h1⟩, _⟩ := k.get m
    exact ⟨p, _, rfl, .inl h1, fun t ht => q _ _ (Hold.new_own k ht rfl fun F s o => ⟨t, _, rfl, upd_same, Reps.ints _⟩)⟩
  · cases e
theorem f_tuple : Fnv T oTuple (fun xs H Q => ∃ p ys, xs = [.ref p] ∧ ((SqL T.K H p ys ∧ ∀ l, H l = none → Q (.ref l) (upd H l (.tup ys))) ∨ (SqT T.K H p ys ∧ Q (.ref p) H))) := by
  intro H l as c vs Q k hl m0 e q
  unfold oTuple at e
  split at e
  · cases e
    obtain ⟨v, rfl, m⟩ := one_arg rfl hl m0
    obtain ⟨p, vs, rfl, h1, l1, _⟩ := k.g_lst m
    exact ⟨p, vs, rfl, .inl ⟨SqL.of h1, fun t ht => q _ _ (Hold.new_fz k ht rfl fun F s o => ⟨t, _, rfl, SqT.of upd_same, (reps_lst s o m h1).mono (same_newF s ht _)⟩)⟩⟩
  · cases e
    obtain ⟨v, rfl, m⟩ := one_arg rfl hl m0
    obtain ⟨p, vs, rfl, h1, l1, _⟩ := k.g_tup m
    exact ⟨p, vs, rfl, .inr ⟨h1, q _ _ (k.dup m rfl)⟩⟩
  · cases e
theorem f_int : Fnv T oInt (fun xs H Q => (∃ i, xs = [.int i] ∧ Q (.int i) H) ∨ ∃ k, xs = [.bl k] ∧ Q (.int (if k then 1 else 0)) H) := by
  intro H l as c vs Q k hl m0 e q
  unfold oInt at e
  split at e
  · cases e
    obtain ⟨v, rfl, m⟩ := one_arg rfl hl m0
    exact .inl ⟨_, by rw [k.g_int m], q _ _ k.int⟩
  · cases e
    obtain ⟨v, rfl, m⟩ := one_arg rfl hl m0
    exact .inr ⟨_, by rw [k.g_bl m], q _ _ k.int⟩
  · cases e
theorem f_bool : Fnv T oBool (fun xs H Q => (∃ i, xs = [.int i] ∧ Q (.bl (i != 0)) H) ∨ ∃ k, xs = [.bl k] ∧ Q (.bl k) H) := by
  intro H l as c vs Q k hl m0 e q
  unfold oBool at e
  split at e
  · cases e
    obtain ⟨v, rfl, m⟩ := one_arg rfl hl m0
    exact .inl ⟨_, by rw [k.g_int m], q _ _ k.bl⟩
  · cases e
    obtain ⟨v, rfl, m⟩ := one_arg rfl hl m0
    exact .inr ⟨_, by rw [k.g_bl m], q _ _ k.bl⟩
  · cases e
theorem f_abs : Fnv T oAbs (fun xs H Q => ∃ i, xs = [.int i] ∧ Q (.int (if i < 0 then -i else i)) H) := by
  intro H l as c vs Q k hl m0 e q
  unfold oAbs at e
  split at e
  · cases e
    obtain ⟨v, rfl, m⟩ := one_arg rfl hl m0
    exact ⟨_, by rw [k.g_int m], q _ _ k.int⟩
  · cases e
theorem f_str : Fnv T oStr (fun xs H Q => ∃ i, xs = [.int i] ∧ i.natAbs.log2 < 1920 ∧ Q (.str (toString i)) H) := by
  intro H l as c vs Q k hl m0 e q
  unfold oStr at e
  split at e
  · split at e <;> cases e
    rename_i hc
    obtain ⟨v, rfl, m⟩ := one_arg rfl hl m0
    exact ⟨_, by rw [k.g_int m], hc, q _ _ k.str⟩
  · cases e
theorem f_max2 : Fnv T oMax2 (fun xs H Q => ∃ i j, xs = [.int i, .int j] ∧ Q (.int (if j > i then j else i)) H) := by
  intro H l as c vs Q k hl m0 e q
  unfold oMax2 at e
  split at e
  · cases e
    obtain ⟨v, w, rfl, m1, m2⟩ := two_arg rfl hl m0
    exact ⟨_, _, by rw [k.g_int m1, k.g_int m2], q _ _ k.int⟩
  · cases e
theorem f_min2 : Fnv T oMin2 (fun xs H Q => ∃ i j, xs = [.int i, .int j] ∧ Q (.int (if j < i then j else i)) H) := by
  intro H l as c vs Q k hl m0 e q
  unfold oMin2 at e
  split at e
  · cases e
    obtain ⟨v, w, rfl, m1, m2⟩ := two_arg rfl hl m0
    exact ⟨_, _, by rw [k.g_int m1, k.g_int m2], q _ _ k.int⟩
  · cases e
theorem ty_of {H : Hp} {l : Its} {a : PV} {v : V} (k : Hold T H l) (m : (a, v) ∈ l) (h : tyN a ≠ "") : TyX T.K H v (.type (tyN a)) := by
  obtain ⟨F, s, r, _⟩ := k.get m
  cases a with
  | non => cases r; exact .base .non
  | bl b => cases r; exact .base (.bl b)
  | int b => cases r; exact .base (.int b)
  | str b => cases r; exact .base (.str b)
  | lst o xs => obtain ⟨p, vs, rfl, h1, _⟩ := r; exact .base (.lst h1)
  | dK o ks xs => obtain ⟨p, vs, rfl, h1, _⟩ := r; exact .base (.dK h1)
  | dT o ks xs => obtain ⟨p, vs, rfl, h1, _⟩ := r; exact .base (.dT h1)
  | tup xs =>
    obtain ⟨p, vs, rfl, h1, _⟩ := r
    rcases h1 with (h1 | ⟨o, h1⟩) | ⟨o, its, n, h1, h2, _⟩
    · exact .base (.tup h1)
    · exact .fTuple h1
    · exact .kTuple h1 h2
  | _ => simp [tyN] at h
theorem f_isi : Fnv T oIsi (rIsi T.K) := by
  intro H l as c vs Q k hl m0 e q
  unfold oIsi at e
  split at e
  · split at e
    · cases e
    · rename_i a n hn
      cases hk : kitB (tyN a) n with
      | none => rw [hk] at e; cases e
      | some b =>
        rw [hk] at e; cases e
        obtain ⟨v, w, rfl, m1, m2⟩ := two_arg rfl hl m0
        have e2 : w = .ty n := by obtain ⟨_, _, r, _⟩ := k.get m2; exact r
        subst e2
        exact ⟨v, .ty n, _, _, b, rfl, .ty n, ty_of k m1 hn, kit_ty hk, q _ _ k.bl⟩
  · cases e
end
theorem ev_tyN {g : G} {X : Cx} {x : Str} {n : String} {pos : Pos} (hg : Gl X x) (hm : X.mg x = none) (hv : bootBuiltins x = some (.type n)) (hn : x ≠ "__name__" := by decide) (hd : (x == ("__debug__" : Str)) = false := by decide) : EV g X (.Name x pos) (eC (.ty n)) :=
  ev_of (pe_bltn (v := .ty n) hg hm hv rfl hn hd) fun σ H Q ρ τ f h hP => hP (.ty n) H f slot_tm (h.add rfl fun F s o => by simp only [Rep])
theorem ev_clsN {g : G} {X : Cx} {x : Str} {c : String} {pos : Pos} (hg : Gl X x) (hm : X.mg x = some (.ref (g.T.ca c))) (hd : (x == ("__debug__" : Str)) = false := by decide) : EV g X (.Name x pos) (eC (.cls c)) :=
  ev_of (pe_glob (v := .ref (g.T.ca c)) hg hm rfl hd) fun σ H Q ρ τ f h hP => hP _ H f slot_tm (h.add rfl fun F s o => by simp only [Rep])

/-! ### list(range(..)) -/
def rgL (a b : Int) : List PV := (List.range (b - a).toNat).map fun i => PV.int (a + (i : Nat))
def oRg : Int → Int → Option (List PV) := fun a b => if a.natAbs ≤ lim ∧ b.natAbs ≤ lim then some (rgL a b) else none
def eRg1 (tup : Bool) (fa : M Hd) : M Hd := fun ρ => (fa ρ).bind fun h ρ1 => match hv ρ1 h with
  | .int n => (match oRg 0 n with | some xs => .ok (.tm (if tup = true then .tup xs else .lst .ow xs)) ρ1 | none => .stuck)
  | _ => .stuck
theorem Reps.rg {T : Tb} {F : Hp} (a b : Int) : Reps T F (rgL a b) (rgV a b) := by
  unfold rgL rgV
  generalize List.range (b - a).toNat = xs
  induction xs with
  | nil => exact .nil
  | cons x xs ih => exact .cons (by simp only [Rep]) rfl ih
theorem rg_ok {a b : Int} {xs : List PV} (h : oRg a b = some xs) : xs = rgL a b ∧ RgOk a b := by
  unfold oRg at h
  split at h
  · rename_i hc
    cases h
    have hl : (lim : Nat) = 100000 := rfl
    rw [hl] at hc
    exact ⟨rfl, by unfold RgOk; omega⟩
  · cases h
section
variable {g : G} {X : Cx} {a : Expr} {fa : M Hd} {p pos pos' p' : Pos}
theorem ev_listRg (hc : X.calm = true) (hg : Gl X "list") (hm : X.mg "list" = none) (hgr : Gl X "range") (hmr : X.mg "range" = none) (ha : EV g X a fa)
    (h1 : starEach [.Call (.Name "range" p') [a] [] pos'] X.env = (false, eval (.Call (.Name "range" p') [a] [] pos') X.env) :: starEach [] X.env := by rfl) (h2 : starEach [a] X.env = (false, eval a X.env) :: starEach [] X.env := by rfl) :
    EV g X (.Call (.Name "list" p) [.Call (.Name "range" p') [a] [] pos'] [] pos) (eRg1 false fa) :=
  ev_of (pe_listRg hc hg hm (prg_1 hgr hmr ha h2) h1) fun σ H Q ρ τ f h hP => stepE (ε := []) f (nilT h) hP fun h1 ρ1 hP1 v H1 f1 s1 k1 => by
    rw [List.nil_append] at k1
    have m := mem_hv (τ := τ) f1 s1
    cases e2 : hv ρ1 h1 <;> simp only [e2] at hP1 m <;> try exact hP1.elim
    rename_i n
    cases e3 : oRg 0 n with
    | none => simp only [e3] at hP1; exact hP1.elim
    | some xs =>
      simp only [e3] at hP1
      obtain ⟨rfl, ok⟩ := rg_ok e3
      exact ⟨n, k1.g_int m, ok, fun t ht => hP1 (.ref t) _ f1 slot_tm (Hold.new_own k1.right ht (a := .lst .ow _) rfl fun F s o => ⟨t, _, rfl, upd_same, .rg 0 n⟩)⟩
theorem ev_tupRg (hc : X.calm = true) (hg : Gl X "tuple") (hm : X.mg "tuple" = none) (hgr : Gl X "range") (hmr : X.mg "range" = none) (ha : EV g X a fa)
    (h1 : starEach [.Call (.Name "range" p') [a] [] pos'] X.env = (false, eval (.Call (.Name "range" p') [a] [] pos') X.env) :: starEach [] X.env := by rfl) (h2 : starEach [a] X.env = (false, eval a X.env) :: starEach [] X.env := by rfl) :
    EV g X (.Call (.Name "tuple" p) [.Call (.Name "range" p') [a] [] pos'] [] pos) (eRg1 true fa) :=
  ev_of (pe_tupRg hc hg hm (prg_1 hgr hmr ha h2) h1) fun σ H Q ρ τ f h hP => stepE (ε := []) f (nilT h) hP fun h1 ρ1 hP1 v H1 f1 s1 k1 => by
    rw [List.nil_append] at k1
    have m := mem_hv (τ := τ) f1 s1
    cases e2 : hv ρ1 h1 <;> simp only [e2] at hP1 m <;> try exact hP1.elim
    rename_i n
    cases e3 : oRg 0 n with
    | none => simp only [e3] at hP1; exact hP1.elim
    | some xs =>
      simp only [e3] at hP1
      obtain ⟨rfl, ok⟩ := rg_ok e3
      exact ⟨n, k1.g_int m, ok, fun t ht => hP1 (.ref t) _ f1 slot_tm (Hold.new_fz k1.right ht (a := .tup _) rfl fun F s o => ⟨t, _, rfl, SqT.of upd_same, .rg 0 n⟩)⟩
end
end VL

set_option Elab.async false
set_option linter.all false
set_option maxRecDepth 100000
/-! Calls of the program's own defs, methods, classes by values. -/
namespace VL
open PySem PySem.Spec PyProof.Rows L2

/-! ### arguments handed over and handed back -/
def isSl (i : Nat) : Hd → Bool
  | .sl j => i == j
  | .tm _ => false
def okArgs : List Hd → List PV → Bool
  | [], _ => true
  | .tm _ :: hs, ρ => okArgs hs ρ
  | .sl i :: hs, ρ => (!(nth ρ i).own || !(hs.any (isSl i))) && okArgs hs ρ
def PV.reFl (o : Fl) (a : PV) : PV := if a.own = true then a.setFl o else a
def back : List PV → List Hd → List PV → List PV
  | ρ, [], _ => ρ
  | ρ, .tm _ :: hs, fin => back ρ hs fin.tail
  | ρ, .sl i :: hs, fin => back (if (nth ρ i).own = true then ρ.set i (PV.reFl (nth ρ i).fl (fin.headD .emp)) else ρ) hs fin.tail
def outs : List PV → List Hd → List PV
  | ρ, [] => ρ
  | ρ, .tm _ :: hs => outs ρ hs
  | ρ, .sl i :: hs => outs (if (nth ρ i).own = true then ρ.set i .emp else ρ) hs
theorem noSl {i : Nat} {x : PV} : ∀ {hs : List Hd} {ρ : List PV}, hs.any (isSl i) = false → okArgs hs (ρ.set i x) = okArgs hs ρ ∧ hs.map (hv (ρ.set i x)) = hs.map (hv ρ) ∧ outs (ρ.set i x) hs = (outs ρ hs).set i x
  | [], _, _ => ⟨rfl, rfl, rfl⟩
  | .tm a :: hs, ρ, h => by
    simp only [List.any_cons, isSl, Bool.false_or] at h
    obtain ⟨h1, h2, h3⟩ := noSl (x := x) (ρ := ρ) h
    exact ⟨by simp only [okArgs, h1], by simp only [List.map_cons, h2, hv], by simp only [outs, h3]⟩
  | .sl j :: hs, ρ, h => by
    simp only [List.any_cons, isSl, Bool.or_eq_false_iff, beq_eq_false_iff_ne] at h
    obtain ⟨hij, h⟩ := h
    have e := nth_set_ne (ρ := ρ) (a := x) hij
    obtain ⟨h1, h2, h3⟩ := noSl (x := x) (ρ := ρ) h
    refine ⟨by simp only [okArgs, h1, e], by simp only [List.map_cons, h2, hv, e], ?_⟩
    simp only [outs, e]
    split
    · rw [List.set_comm _ _ hij]
      exact (noSl (x := x) h).2.2
    · exact h3
theorem io_own {a : PV} (h : a.isIo = true) : a.own = true := by
  unfold PV.isIo at h
  unfold PV.own
  split at h
  · rename_i e; rw [e]
  · cases h
theorem fl_set {a : PV} {o : Fl} (h : a.own = true) (he : a.isErr = false) : (a.setFl o).fl = o := by
  cases a <;> first | rfl | (cases he; done) | (cases h; done)
theorem own_eq {a b : PV} (h : a.fl = b.fl) : a.own = b.own := by unfold PV.own; rw [h]
theorem io_eq {a b : PV} (h : a.fl = b.fl) : a.isIo = b.isIo := by unfold PV.isIo; rw [h]
theorem reFl_io {a b : PV} (h : (PV.reFl b.fl a).isIo = true) : b.isIo = true := by
  unfold PV.reFl at h
  split at h
  · rename_i hc
    by_cases he : a.isErr = true
    · cases a <;> simp [PV.isErr] at he
      cases h
    · rw [← h]; exact (io_eq (fl_set hc (by simpa using he))).symm
  · rename_i hc
    exact absurd (io_own h) hc
theorem reFl_hold {T : Tb} {H : Hp} {l : Its} {a b : PV} {v : V} (hb : b.own = true) (h : Hold T H ((a, v) :: l)) : Hold T H ((PV.reFl b.fl a, v) :: l) := by
  unfold PV.reFl
  split
  · rename_i hc
    exact h.relabel hc fun z => by unfold PV.own at hb; rw [z] at hb; cases hb
  · exact h
section
variable {T : Tb} {H : Hp} {s0 : L2.St} {σ : L2.St}
theorem argsOut : ∀ {hs : List Hd} {vs : List V} {ρ : List PV} {τ : Its}, Fits s0 ρ σ → slotsAt σ hs vs → okArgs hs ρ = true → Hold T H (hits hs vs ++ (its ρ σ ++ τ)) → Hold T H ((hs.map (hv ρ)).zip vs ++ (its (outs ρ hs) σ ++ τ))
  | [], _, ρ, τ, f, c, _, h => by
    have c : _ = [] := c
    subst c
    simpa [hits, outs] using h
  | .tm a :: hs, _, ρ, τ, f, c, ok, h => by
    obtain ⟨v, vs', rfl, c1, c2⟩ := c
    simp only [hits, hit, List.cons_append, List.nil_append] at h
    have h1 : Hold T H (hits hs vs' ++ (its ρ σ ++ ((a, v) :: τ))) := h.perm (permc fun _ x => by simp only [List.count_append, List.count_cons]; omega)
    have h2 := argsOut f c2 (by simpa only [okArgs] using ok) h1
    simp only [List.map_cons, hv, List.zip_cons_cons, List.cons_append, outs]
    exact h2.perm (permc fun _ x => by simp only [List.count_append, List.count_cons]; omega)
  | .sl i :: hs, _, ρ, τ, f, c, ok, h => by
    obtain ⟨v, vs', rfl, c1, c2⟩ := c
    have ci := c1 i rfl
    simp only [okArgs, Bool.and_eq_true] at ok
    obtain ⟨ok1, ok2⟩ := ok
    simp only [hits, hit, List.nil_append] at h
    simp only [List.map_cons, hv, List.zip_cons_cons, List.cons_append, outs]
    by_cases ho : (nth ρ i).own = true
    · simp only [ho, Bool.not_true, Bool.false_or, Bool.not_eq_true'] at ok1
      obtain ⟨e1, e2, e3⟩ := noSl (x := .emp) (ρ := ρ) ok1
      rw [if_pos ho]
      have h1 : Hold T H (its ρ σ ++ (hits hs vs' ++ τ)) := h.perm (permc fun _ x => by simp only [List.count_append]; omega)
      have h2 := h1.slotOut f ci
      have f2 : Fits s0 (ρ.set i .emp) σ := f.re ci fun z => by cases z
      have h3 : Hold T H (hits hs vs' ++ (its (ρ.set i .emp) σ ++ ((nth ρ i, v) :: τ))) := h2.perm (permc fun _ x => by simp only [List.count_append, List.count_cons]; omega)
      have h4 := argsOut f2 c2 (by rw [e1]; exact ok2) h3
      rw [e2] at h4
      exact h4.perm (permc fun _ x => by simp only [List.count_append, List.count_cons]; omega)
    · rw [if_neg ho]
      have ho' : (nth ρ i).own = false := by simpa using ho
      have m : (nth ρ i, v) ∈ hits hs vs' ++ (its ρ σ ++ τ) := List.mem_append_right _ (List.mem_append_left _ (its_mem f.len ci))
      have h1 := h.dup m ho'
      have h2 : Hold T H (hits hs vs' ++ (its ρ σ ++ ((nth ρ i, v) :: τ))) := h1.perm (permc fun _ x => by simp only [List.count_append, List.count_cons]; omega)
      have h3 := argsOut f c2 ok2 h2
      exact h3.perm (permc fun _ x => by simp only [List.count_append, List.count_cons]; omega)
theorem argsIn : ∀ {hs : List Hd} {vs : List V} {fin : List PV} {ρ : List PV} {τ : Its}, Fits s0 ρ σ → slotsAt σ hs vs → okArgs hs ρ = true → Hold T H (fin.zip vs ++ (its (outs ρ hs) σ ++ τ)) → Fits s0 (back ρ hs fin) σ ∧ Hold T H (its (back ρ hs fin) σ ++ τ)
  | [], _, fin, ρ, τ, f, c, _, h => by
    have c : _ = [] := c
    subst c
    exact ⟨f, by simpa [outs, back] using h⟩
  | .tm a :: hs, _, fin, ρ, τ, f, c, ok, h => by
    obtain ⟨v, vs', rfl, c1, c2⟩ := c
    simp only [okArgs] at ok
    simp only [back, outs] at h ⊢
    cases fin with
    | nil => exact argsIn f c2 ok (by simpa using h)
    | cons x fin => exact argsIn f c2 ok (by rw [List.zip_cons_cons, List.cons_append] at h; exact h.tail)
  | .sl i :: hs, _, fin, ρ, τ, f, c, ok, h => by
    obtain ⟨v, vs', rfl, c1, c2⟩ := c
    have ci := c1 i rfl
    simp only [okArgs, Bool.and_eq_true] at ok
    obtain ⟨ok1, ok2⟩ := ok
    simp only [back, outs] at h ⊢
    by_cases ho : (nth ρ i).own = true
    · simp only [ho, Bool.not_true, Bool.false_or, Bool.not_eq_true'] at ok1
      rw [if_pos ho] at h ⊢
      -- what is handed back, at the slot's place
      have key : ∀ (x : PV), Hold T H ((x, v) :: (fin.tail.zip vs' ++ (its (outs (ρ.set i .emp) hs) σ ++ τ))) → Fits s0 (back (ρ.set i (PV.reFl (nth ρ i).fl x)) hs fin.tail) σ ∧ Hold T H (its (back (ρ.set i (PV.reFl (nth ρ i).fl x)) hs fin.tail) σ ++ τ) := by
        intro x hx
        have f2 : Fits s0 (ρ.set i (PV.reFl (nth ρ i).fl x)) σ := f.re ci reFl_io
        obtain ⟨e1, e2, e3⟩ := noSl (x := PV.reFl (nth ρ i).fl x) (ρ := ρ) ok1
        obtain ⟨_, _, e4⟩ := noSl (x := .emp) (ρ := ρ) ok1
        refine argsIn f2 c2 (by rw [e1]; exact ok2) ?_
        rw [e3]
        rw [e4] at hx
        have hx2 := reFl_hold ho hx
        have f3 : Fits s0 (outs ρ hs) σ := by
          have : ∀ {hs : List Hd} {vs : List V} {ρ : List PV}, Fits s0 ρ σ → slotsAt σ hs vs → Fits s0 (outs ρ hs) σ := by
            intro hs
            induction hs with
            | nil => intro vs ρ f c; exact f
            | cons h hs ih =>
              intro vs ρ f c
              obtain ⟨v, vs', rfl, c1, c2⟩ := c
              cases h with
              | tm a => exact ih f c2
              | sl j =>
                simp only [outs]
                split
                · exact ih (f.re (c1 j rfl) fun z => by cases z) c2
                · exact ih f c2
          exact this f c2
        have h4 : Hold T H ((PV.reFl (nth ρ i).fl x, v) :: (its ((outs ρ hs).set i .emp) σ ++ (fin.tail.zip vs' ++ τ))) := hx2.perm (permc fun _ y => by simp only [List.count_append, List.count_cons]; omega)
        have h5 := h4.slotIn f3 ci
        exact h5.perm (permc fun _ y => by simp only [List.count_append]; omega)
      cases fin with
      | nil => exact key .emp (by simpa using h.emp)
      | cons x fin => exact key x (by simpa using h)
    · rw [if_neg ho] at h ⊢
      cases fin with
      | nil => exact argsIn f c2 ok2 (by simpa using h)
      | cons x fin => exact argsIn f c2 ok2 (by rw [List.zip_cons_cons, List.cons_append] at h; exact h.tail)
end

/-! ### promises -/
def Fin (T : Tb) (vs : List V) (τ : Its) (Q : VK) (E : XK) : R PV → Prop
  | .ok a fin => ∀ v H', Hold T H' ((a, v) :: (fin.zip vs ++ τ)) → Q v H'
  | .exc c xs fin => ∀ (d : Option Addr) (ws : List V) (H' : Hp), XAt T H' c d ws → ws.length = xs.length → Hold T H' (xs.zip ws ++ (fin.zip vs ++ τ)) → E (.ref (T.ca c)) d H'
  | .stuck => False
/-- the def is worth F -/
def spF (T : Tb) (F : List PV → R PV) : Sp := fun vs H Q E => ∃ args τ, vs.length = args.length ∧ Hold T H (args.zip vs ++ τ) ∧ Fin T vs τ Q E (F args)
def eCall (F : List PV → R PV) (fs : M (List Hd)) : M Hd := fun ρ => (fs ρ).bind fun hs ρ1 =>
  if okArgs hs ρ1 = true then (match F (hs.map (hv ρ1)) with
    | .ok a fin => .ok (.tm a) (back ρ1 hs fin)
    | .exc c xs fin => .exc c xs (back ρ1 hs fin)
    | .stuck => .stuck) else .stuck
section
variable {g : G} {X : Cx} {k : Nat} {x : Str} {e : Expr} {es : List Expr} {fs : M (List Hd)} {p pos : Pos} {F : List PV → R PV}
/-- the callee's promise from the arguments -/
theorem call_fin {σ : L2.St} {τ : Its} {Q : VK} {hs : List Hd} {ρ1 : List PV} {vs : List V} {H1 : Hp} (f1 : Fits g.s0 ρ1 σ) (s1 : slotsAt σ hs vs) (k1 : Hold g.T H1 (hits hs vs ++ (its ρ1 σ ++ τ)))
    (hP : Post g σ τ (PE1 g σ τ Q) (if okArgs hs ρ1 = true then (match F (hs.map (hv ρ1)) with
      | .ok a fin => (.ok (.tm a) (back ρ1 hs fin) : R Hd)
      | .exc c xs fin => .exc c xs (back ρ1 hs fin)
      | .stuck => .stuck) else .stuck)) : spF g.T F vs H1 Q (WE g.W σ) := by
  split at hP
  · rename_i ok
    have k2 := argsOut f1 s1 ok k1
    obtain ⟨q1, _⟩ := mems_of (l := hits hs vs ++ (its ρ1 σ ++ τ)) f1 s1 (fun x hx => by simp [hx]) fun x hx => by simp [hx]
    refine ⟨_, _, q1, k2, ?_⟩
    cases e : F (hs.map (hv ρ1)) with
    | ok a fin =>
      rw [e] at hP
      intro v H' k3
      have k4 : Hold g.T H' (fin.zip vs ++ (its (outs ρ1 hs) σ ++ ((a, v) :: τ))) := k3.perm (permc fun _ y => by simp only [List.count_append, List.count_cons]; omega)
      obtain ⟨f5, k5⟩ := argsIn f1 s1 ok k4
      exact hP v H' f5 slot_tm (k5.perm (permc fun _ y => by simp only [hit, List.count_append, List.count_cons, List.count_nil]; omega))
    | exc c xs fin =>
      rw [e] at hP
      intro d ws H' hx hl k3
      have k4 : Hold g.T H' (fin.zip vs ++ (its (outs ρ1 hs) σ ++ (xs.zip ws ++ τ))) := k3.perm (permc fun _ y => by simp only [List.count_append]; omega)
      obtain ⟨f5, k5⟩ := argsIn f1 s1 ok k4
      exact hP d ws H' f5 hx hl (k5.perm (permc fun _ y => by simp only [List.count_append]; omega))
    | stuck => rw [e] at hP; exact hP
  · exact hP.elim
theorem ev_call (D : My.DnX X.prog X.w X.K X.mg X.base k x (spF g.T F)) (hr : Room k X.A) (hg : Gl X x) (tk : Takes X g.W) (ha : AV g X (e :: es) fs) (hdb : (x == ("__debug__" : Str)) = false := by decide)
    (he : starEach (e :: es) X.env = (false, eval e X.env) :: starEach es X.env := by rfl) (hpl : (backTo pos (starEach es X.env)).any (·.1) = false := by rfl) : EV g X (.Call (.Name x p) (e :: es) [] pos) (eCall F fs) :=
  ev_of (My.pe_callX D hr hg tk ha hdb he hpl) fun σ H Q ρ τ f h hP => stepA (ε := []) f (nilT h) hP fun hs ρ1 hP1 vs H1 f1 s1 k1 => call_fin f1 s1 k1 hP1
end
end VL

set_option Elab.async false
set_option linter.all false
set_option maxRecDepth 100000
/-! Methods, makings, properties, objects that are called, by values. -/
namespace VL
open PySem PySem.Spec PyProof.Rows L2

def callH {α : Type} (F : List PV → R PV) (hs : List Hd) (ρ1 : List PV) (k : PV → List PV → R α) : R α :=
  if okArgs hs ρ1 = true then (match F (hs.map (hv ρ1)) with
    | .ok a fin => k a (back ρ1 hs fin)
    | .exc c xs fin => .exc c xs (back ρ1 hs fin)
    | .stuck => .stuck) else .stuck
def isObj (c : String) : PV → Bool
  | .obj _ c' _ => c' == c
  | _ => false
def eMeth (c : String) (F : List PV → R PV) (fo : M Hd) (fs : M (List Hd)) : M Hd := fun ρ => (fo ρ).bind fun h ρ1 => if isObj c (hv ρ1 h) = true then (fs ρ1).bind fun hs ρ2 => callH F (h :: hs) ρ2 fun a ρ3 => .ok (.tm a) ρ3 else .stuck
/-- a property: nothing is let out -/
def eProp (c : String) (F : List PV → R PV) (fo : M Hd) : M Hd := fun ρ => (fo ρ).bind fun h ρ1 => if isObj c (hv ρ1 h) = true then (match F [hv ρ1 h] with
  | .ok a fin => .ok (.tm a) (back ρ1 [h] fin)
  | _ => .stuck) else .stuck
def eMake (c : String) (imm : Bool) (F : List PV → R PV) (fs : M (List Hd)) : M Hd := fun ρ => (fs ρ).bind fun hs ρ1 => if okArgs hs ρ1 = true then (match F (.obj .io c [] :: hs.map (hv ρ1)) with
  | .ok .non (s :: fin) => .ok (.tm (if imm = true then s.setFl .fz else s)) (back ρ1 hs fin)
  | .exc c' xs (_ :: fin) => .exc c' xs (back ρ1 hs fin)
  | _ => .stuck) else .stuck
/-- o(e, ..) of an object by a name -/
def eObj (c : String) (F : List PV → R PV) (fo : M Hd) (fs : M (List Hd)) : M Hd := fun ρ => (fo ρ).bind fun h ρ1 => if isObj c (hv ρ1 h) = true then (fs ρ1).bind fun hs ρ2 => if isObj c (hv ρ2 h) = true then callH F (h :: hs) ρ2 fun a ρ3 => .ok (.tm a) ρ3 else .stuck else .stuck
section
variable {g : G} {X : Cx} {k : Nat} {x m : Str} {o e : Expr} {es : List Expr} {fo : M Hd} {fs : M (List Hd)} {p pos apos : Pos} {F : List PV → R PV} {c : String} {C : Addr} {sp : Sp} {ta : TE} {t : TA}
/-- o.m(e, ..), what m lets out by the slots -/
def tMethV (C : Addr) (m : Str) (sp : Sp) (E : L2.St → XK) (ta : TE) (t : TA) : TE := fun σ H Q => ta σ H fun x H1 => ∃ a dx fs, x = .ref a ∧ H1 a = some (.ins C dx fs) ∧ fs.lookup m = none ∧ t σ H1 fun vs H2 => sp (x :: vs) H2 Q (E σ)
theorem pe_methV {pl : Sem Bool} {W : WX} (D : My.DnMX X.prog X.w X.K X.mg X.base k C m sp) (cl : Cls X.K C) (hr : Room k X.A) (tk : Takes X W) (he : PE X o ta) (ha : PA X (e :: es) t)
    (hst : starEach (e :: es) X.env = (false, eval e X.env) :: starEach es X.env := by rfl) (hpl : (backTo pos (starEach es X.env)).any (·.1) = false := by rfl)
    (ht : eval (.Call (.Attribute o m apos) (e :: es) [] pos) X.env = (do
      let ov ← eval o X.env
      standAt apos.atName
      let (f, first) ← holding [ov] (getMethod ov m pl)
      callWith pos f first (backTo pos (starEach (e :: es) X.env)) (backToKw pos (keywordEach [] X.env))) := by rfl) :
    PE X (.Call (.Attribute o m apos) (e :: es) [] pos) (tMethV C m sp (WE W) ta t) := by
  obtain ⟨f, fd, ps, F, hm, hb⟩ := D.ex
  refine ⟨fun pins s σ H Q I h => ?_⟩
  refine PySem.W.methodCall_KW (pl := pl) (thn (he.run pins s σ H _ I h) fun u s1 ⟨x, H1, I1, rx, a, dx, fs, ex, ea, l, q⟩ => ?_) ht
  subst ex
  obtain rfl : u = Value.ref a := rx
  refine getmeth_ok I1 ea cl hm l ?_
  refine PySem.W.callWith_K (first := [.ref a]) (h₀ := X.base) I.ok.mod.kin hm.kp (thn (ha.run pos pins s1 σ H1 _ I1 q) fun us s2 ⟨vs, H2, I2, r, q2⟩ => ⟨I2.kIn, ?_⟩) hst hpl
  exact run_fnS (us := .ref a :: us) (vs := .ref a :: vs) F hr hb (passAt tk σ) I2 (.cons rfl r) q2
theorem pe_methV0 {pl : Sem Bool} {W : WX} (D : My.DnMX X.prog X.w X.K X.mg X.base k C m sp) (cl : Cls X.K C) (hr : Room k X.A) (tk : Takes X W) (he : PE X o ta)
    (ht : eval (.Call (.Attribute o m apos) [] [] pos) X.env = (do
      let ov ← eval o X.env
      standAt apos.atName
      let (f, first) ← holding [ov] (getMethod ov m pl)
      callWith pos f first (backTo pos (starEach [] X.env)) (backToKw pos (keywordEach [] X.env))) := by rfl) :
    PE X (.Call (.Attribute o m apos) [] [] pos) (tMethV C m sp (WE W) ta tNil) := by
  obtain ⟨f, fd, ps, F, hm, hb⟩ := D.ex
  refine ⟨fun pins s σ H Q I h => ?_⟩
  refine PySem.W.methodCall_KW (pl := pl) (thn (he.run pins s σ H _ I h) fun u s1 ⟨x, H1, I1, rx, a, dx, fs, ex, ea, l, q⟩ => ?_) ht
  subst ex
  obtain rfl : u = Value.ref a := rx
  refine getmeth_ok I1 ea cl hm l ?_
  exact PySem.W.callWith_K0 (first := [.ref a]) I1.kIn hm.kp (run_fnS (us := [.ref a]) (vs := [.ref a]) F hr hb (passAt tk σ) I1 (.cons rfl .nil) q)
theorem isObj_eq {a : PV} (h : isObj c a = true) : ∃ o xs, a = .obj o c xs := by
  cases a <;> simp [isObj] at h
  subst h
  exact ⟨_, _, rfl⟩
theorem lookup_out {ns : List Str} {vs : List V} (h : m ∉ ns) : (ns.zip vs).lookup m = none := by
  induction ns generalizing vs with
  | nil => rfl
  | cons n ns ih =>
    cases vs with
    | nil => rfl
    | cons v vs =>
      rw [List.zip_cons_cons, List.lookup_cons]
      have : (m == n) = false := by simpa using fun z => h (by rw [z]; exact List.mem_cons_self)
      rw [this]
      exact ih fun z => h (List.mem_cons_of_mem _ z)
/-- what the receiver is -/
theorem recv {σ : L2.St} {h : Hd} {v : V} {ρ1 : List PV} {τ : Its} {H1 : Hp} (f1 : Fits g.s0 ρ1 σ) (s1 : slotAt σ h v) (k1 : Hold g.T H1 (hit h v ++ (its ρ1 σ ++ τ))) (ho : isObj c (hv ρ1 h) = true) (hm : m ∉ g.T.flds c) :
    ∃ a dx fs, v = .ref a ∧ H1 a = some (.ins (g.T.ca c) dx fs) ∧ fs.lookup m = none := by
  obtain ⟨o, xs, e⟩ := isObj_eq ho
  have mm := mem_hv (τ := τ) f1 s1
  rw [e] at mm
  obtain ⟨p, dx, vs, rfl, hp, hl, _⟩ := k1.g_obj mm
  exact ⟨p, dx, _, rfl, hp, lookup_out hm⟩
theorem callH_fin {σ : L2.St} {τ : Its} {Q : VK} {hs : List Hd} {ρ1 : List PV} {vs : List V} {H1 : Hp} (f1 : Fits g.s0 ρ1 σ) (s1 : slotsAt σ hs vs) (k1 : Hold g.T H1 (hits hs vs ++ (its ρ1 σ ++ τ)))
    (hP : Post g σ τ (PE1 g σ τ Q) (callH F hs ρ1 fun a ρ3 => .ok (.tm a) ρ3)) : spF g.T F vs H1 Q (WE g.W σ) := call_fin f1 s1 k1 hP
theorem ev_meth {pl : Sem Bool} (hK : X.K = g.T.K) (D : My.DnMX X.prog X.w X.K X.mg X.base k (g.T.ca c) m (spF g.T F)) (cl : Cls g.T.K (g.T.ca c)) (nm : m ∉ g.T.flds c) (hr : Room k X.A) (tk : Takes X g.W) (he : EV g X o fo) (ha : AV g X (e :: es) fs)
    (hst : starEach (e :: es) X.env = (false, eval e X.env) :: starEach es X.env := by rfl) (hpl : (backTo pos (starEach es X.env)).any (·.1) = false := by rfl)
    (ht : eval (.Call (.Attribute o m apos) (e :: es) [] pos) X.env = (do
      let ov ← eval o X.env
      standAt apos.atName
      let (f, first) ← holding [ov] (getMethod ov m pl)
      callWith pos f first (backTo pos (starEach (e :: es) X.env)) (backToKw pos (keywordEach [] X.env))) := by rfl) : EV g X (.Call (.Attribute o m apos) (e :: es) [] pos) (eMeth c F fo fs) :=
  ev_of (pe_methV (pl := pl) D (by rw [hK]; exact cl) hr tk he ha hst hpl ht) fun σ H Q ρ τ f h hP => stepE (ε := []) f (nilT h) hP fun h1 ρ1 hP1 v H1 f1 s1 k1 => by
    rw [List.nil_append] at k1
    split at hP1
    · rename_i ho
      obtain ⟨a, dx, fl, ev, ea, nl⟩ := recv f1 s1 k1 ho nm
      refine ⟨a, dx, fl, ev, ea, nl, ?_⟩
      refine stepA (ε := hit h1 v) f1 (mid k1) hP1 fun hs ρ2 hP2 vs H2 f2 s2 k2 => ?_
      refine callH_fin (hs := h1 :: hs) f2 ⟨v, vs, rfl, s1, s2⟩ ?_ hP2
      exact k2.perm (permc fun _ y => by simp only [hits, List.count_append]; omega)
    · exact hP1.elim
theorem ev_meth0 {pl : Sem Bool} (hK : X.K = g.T.K) (D : My.DnMX X.prog X.w X.K X.mg X.base k (g.T.ca c) m (spF g.T F)) (cl : Cls g.T.K (g.T.ca c)) (nm : m ∉ g.T.flds c) (hr : Room k X.A) (tk : Takes X g.W) (he : EV g X o fo)
    (ht : eval (.Call (.Attribute o m apos) [] [] pos) X.env = (do
      let ov ← eval o X.env
      standAt apos.atName
      let (f, first) ← holding [ov] (getMethod ov m pl)
      callWith pos f first (backTo pos (starEach [] X.env)) (backToKw pos (keywordEach [] X.env))) := by rfl) : EV g X (.Call (.Attribute o m apos) [] [] pos) (eMeth c F fo aNil) :=
  ev_of (pe_methV0 (pl := pl) D (by rw [hK]; exact cl) hr tk he ht) fun σ H Q ρ τ f h hP => stepE (ε := []) f (nilT h) hP fun h1 ρ1 hP1 v H1 f1 s1 k1 => by
    rw [List.nil_append] at k1
    split at hP1
    · rename_i ho
      obtain ⟨a, dx, fl, ev, ea, nl⟩ := recv f1 s1 k1 ho nm
      refine ⟨a, dx, fl, ev, ea, nl, ?_⟩
      refine callH_fin (hs := [h1]) f1 ⟨v, [], rfl, s1, rfl⟩ ?_ hP1
      exact k1.perm (permc fun _ y => by simp only [hits, List.count_append, List.count_nil]; omega)
    · exact hP1.elim
theorem ev_obj {y : Str} {py : Pos} {foy : M Hd} (D : My.DnO (L2.CX X.prog X.w) X.prog X.w X.K X.mg X.base k (g.T.ca c) (spF g.T F)) (hr : Room k X.A) (tk : Takes X g.W) (he : EV g X (.Name y py) foy) (ha : AV g X (e :: es) fs)
    (hst : starEach (e :: es) X.env = (false, eval e X.env) :: starEach es X.env := by rfl) (hpl : (backTo pos (starEach es X.env)).any (·.1) = false := by rfl) : EV g X (.Call (.Name y py) (e :: es) [] pos) (eObj c F foy fs) :=
  ev_of (My.pe_objX he D hr tk ha hst hpl) fun σ H Q ρ τ f h hP => stepE (ε := []) f (nilT h) hP fun h1 ρ1 hP1 v H1 f1 s1 k1 => by
    rw [List.nil_append] at k1
    split at hP1
    · rename_i ho1
      obtain ⟨o1, xs1, e1⟩ := isObj_eq ho1
      have m1 := mem_hv (τ := τ) f1 s1
      rw [e1] at m1
      obtain ⟨p1, dx1, ws1, rfl, hp1, _, _⟩ := k1.g_obj m1
      refine ⟨p1, rfl, stepA (ε := hit h1 (.ref p1)) f1 (mid k1) hP1 fun hs ρ2 hP2 vs H2 f2 s2 k2 => ?_⟩
      split at hP2
      · rename_i ho
        have k3 : Hold g.T H2 (hit h1 (.ref p1) ++ (its ρ2 σ ++ (hits hs vs ++ τ))) := k2.perm (permc fun _ y => by simp only [List.count_append]; omega)
        obtain ⟨o', xs', e'⟩ := isObj_eq ho
        have mm := mem_hv (τ := hits hs vs ++ τ) f2 s1
        rw [e'] at mm
        obtain ⟨p, dx, ws, ep, hp, hl, _⟩ := k3.g_obj mm
        cases ep
        refine ⟨⟨dx, _, hp⟩, callH_fin (hs := h1 :: hs) f2 ⟨_, vs, rfl, s1, s2⟩ ?_ hP2⟩
        exact k2.perm (permc fun _ y => by simp only [hits, List.count_append]; omega)
      · exact hP2.elim
    · exact hP1.elim
theorem passes0 {P : Program} {w : World} {X : Cx} : Passes (L2.CX P w) X E0 := by
  intro pins σ H s e s' I h
  obtain ⟨a, B, H', cls, d, _, _, _, _, _, _, _, z⟩ := h
  exact z.elim
/-- o.m, a property -/
structure DnPX (P : Program) (w : World) (K : PySem.W.Frag) (mg : Str → Option Value) (base : Heap) (k : Nat) (C : Addr) (m : Str) (sp : Sp) : Prop where
  ex : ∃ (p f : Addr) (fd : FuncData) (ps : List Str), FnOk P w K mg base (L2.CX P w) k f fd ps sp ∧ PropOf K C m p f ∧ Binds K fd ps []
theorem ev_prop (hK : X.K = g.T.K) (D : DnPX X.prog X.w X.K X.mg X.base k (g.T.ca c) m (spF g.T F)) (cl : Cls g.T.K (g.T.ca c)) (hr : Room (k + 1) X.A) (he : EV g X o fo)
    (h1 : attributeBase o m X.env (eval o X.env) = eval o X.env := by rfl) : EV g X (.Attribute o m pos) (eProp c F fo) := by
  obtain ⟨p, f, fd, ps, FF, q, b⟩ := D.ex
  refine ev_of (pe_prop he (by rw [hK]; exact cl) q FF hr b .nil passes0 h1) fun σ H Q ρ τ ft h hP => stepE (ε := []) ft (nilT h) hP fun h1 ρ1 hP1 v H1 f1 s1 k1 => ?_
  rw [List.nil_append] at k1
  split at hP1
  · rename_i ho
    obtain ⟨o1, xs1, e1⟩ := isObj_eq ho
    have m1 := mem_hv (τ := τ) f1 s1
    rw [e1] at m1
    obtain ⟨p1, dx1, ws1, rfl, hp1, _, _⟩ := k1.g_obj m1
    refine ⟨p1, dx1, _, rfl, hp1, ?_⟩
    have ok : okArgs [h1] ρ1 = true := by
      cases h1 with
      | tm a => rfl
      | sl i => simp [okArgs]
    have k2 : Hold g.T H1 (hits [h1] [.ref p1] ++ (its ρ1 σ ++ τ)) := k1.perm (permc fun _ y => by simp only [hits, List.count_append, List.count_nil]; omega)
    have sa : slotsAt σ [h1] [.ref p1] := ⟨_, [], rfl, s1, rfl⟩
    have k3 := argsOut f1 sa ok k2
    refine ⟨[hv ρ1 h1], _, rfl, by simpa using k3, ?_⟩
    cases e : F [hv ρ1 h1] with
    | ok a fin =>
      rw [e] at hP1
      intro v H' k4
      have k5 : Hold g.T H' (fin.zip [.ref p1] ++ (its (outs ρ1 [h1]) σ ++ ((a, v) :: τ))) := k4.perm (permc fun _ y => by simp only [List.count_append, List.count_cons]; omega)
      obtain ⟨f5, k6⟩ := argsIn f1 sa ok k5
      exact hP1 v H' f5 slot_tm (k6.perm (permc fun _ y => by simp only [hit, List.count_append, List.count_cons, List.count_nil]; omega))
    | exc _ _ _ => rw [e] at hP1; exact hP1.elim
    | stuck => rw [e] at hP1; exact hP1.elim
  · exact hP1.elim
/-- C(e, ..) -/
theorem ev_make {imm : Bool} (D : My.DnIX X.prog X.w X.K X.mg X.base k x (g.T.ca c) (spF g.T F)) (hr : Room (k + 1) X.A) (hg : Gl X x) (tk : Takes X g.W) (ha : AV g X (e :: es) fs) (hdb : (x == ("__debug__" : Str)) = false := by decide)
    (he : starEach (e :: es) X.env = (false, eval e X.env) :: starEach es X.env := by rfl) (hpl : (backTo pos (starEach es X.env)).any (·.1) = false := by rfl) : EV g X (.Call (.Name x p) (e :: es) [] pos) (eMake c imm F fs) :=
  ev_of (My.pe_makeX D hr hg tk ha hdb he hpl) fun σ H Q ρ τ f h hP => stepA (ε := []) f (nilT h) hP fun hs ρ1 hP1 vs H1 f1 s1 k1 => by
    rw [List.nil_append] at k1
    intro y dx ny ndx ne
    split at hP1
    · rename_i ok
      have k2 := argsOut f1 s1 ok k1
      obtain ⟨q1, _⟩ := mems_of (l := hits hs vs ++ (its ρ1 σ ++ τ)) f1 s1 (fun x hx => by simp [hx]) fun x hx => by simp [hx]
      have ny' : (upd H1 dx (.own y)) y = none := by rw [upd_ne (Ne.symm ne)]; exact ny
      have k3 : Hold g.T (upd (upd H1 dx (.own y)) y (.ins (g.T.ca c) dx [])) ((.obj .io c [], .ref y) :: ((hs.map (hv ρ1)).zip vs ++ (its (outs ρ1 hs) σ ++ τ))) :=
        Hold.new_own (k2.same (My.same_new ndx _)) ny' rfl fun F s o => ⟨y, dx, [], rfl, by rw [upd_same, List.zip_nil_right], Nat.zero_le _, .nil⟩
      refine ⟨.obj .io c [] :: hs.map (hv ρ1), _, by simp [q1], k3, ?_⟩
      cases e : F (.obj .io c [] :: hs.map (hv ρ1)) with
      | ok a fin =>
        rw [e] at hP1
        cases a <;> try exact hP1.elim
        cases fin with
        | nil => exact hP1.elim
        | cons s fin =>
          intro v H' k4
          refine ⟨k4.g_non List.mem_cons_self, ?_⟩
          have k5 : Hold g.T H' (fin.zip vs ++ (its (outs ρ1 hs) σ ++ ((s, .ref y) :: τ))) := k4.tail.perm (permc fun _ z => by simp only [List.zip_cons_cons, List.count_append, List.count_cons]; omega)
          obtain ⟨f5, k6⟩ := argsIn f1 s1 ok k5
          have k7 : Hold g.T H' ((s, .ref y) :: (its (back ρ1 hs fin) σ ++ τ)) := k6.perm (permc fun _ z => by simp only [List.count_append, List.count_cons]; omega)
          refine hP1 (.ref y) H' f5 slot_tm ?_
          show Hold g.T H' ((if imm = true then s.setFl .fz else s, .ref y) :: (its (back ρ1 hs fin) σ ++ τ))
          split
          · exact k7.freeze
          · exact k7
      | exc c' xs fin =>
        rw [e] at hP1
        cases fin with
        | nil => exact hP1.elim
        | cons s fin =>
          intro d ws H' hx hl k4
          have k5 : Hold g.T H' (fin.zip vs ++ (its (outs ρ1 hs) σ ++ (xs.zip ws ++ τ))) := by
            have : Hold g.T H' ((s, .ref y) :: (fin.zip vs ++ (its (outs ρ1 hs) σ ++ (xs.zip ws ++ τ)))) := k4.perm (permc fun _ z => by simp only [List.zip_cons_cons, List.count_append, List.count_cons]; omega)
            exact this.tail
          obtain ⟨f5, k6⟩ := argsIn f1 s1 ok k5
          exact hP1 d ws H' f5 hx hl (k6.perm (permc fun _ z => by simp only [List.count_append]; omega))
      | stuck => rw [e] at hP1; exact hP1.elim
    · exact hP1.elim
end
end VL

set_option Elab.async false
set_option linter.all false
set_option maxRecDepth 100000
/-! Statements, loops, comprehensions by values. -/
namespace VL
open PySem PySem.Spec PyProof.Rows L2

/-! ### words -/
def sNx : M Fw := fun ρ => .ok .nx ρ
def sBk : M Fw := fun ρ => .ok .bk ρ
def sCt : M Fw := fun ρ => .ok .ct ρ
def sSeq (f k : M Fw) : M Fw := fun ρ => match f ρ with
  | .ok .nx ρ1 => k ρ1
  | r => r
def sE (f : M Hd) : M Fw := fun ρ => (f ρ).bind fun _ ρ1 => .ok .nx ρ1
def setAt (i : Nat) (a : PV) (ρ : List PV) : Option (List PV) := if ((nth ρ i).isIo || a.isIo) = true then none else some (ρ.set i a)
def keep (h : Hd) (ρ : List PV) : Option (PV × List PV) := match h with
  | .tm a => some (a, ρ)
  | .sl _ => take ρ h
def ofL : Option (List PV) → R Fw
  | some ρ => .ok .nx ρ
  | none => .stuck
def sSet (i : Nat) (f : M Hd) : M Fw := fun ρ => (f ρ).bind fun h ρ1 => match keep h ρ1 with
  | some (a, ρ2) => ofL (setAt i a ρ2)
  | none => .stuck
def sRet (f : M Hd) : M Fw := fun ρ => (f ρ).bind fun h ρ1 => match h with
  | .tm a => .ok (.rt a) ρ1
  | .sl j => if (nth ρ1 j).isIo = true then .stuck else .ok (.rt (nth ρ1 j)) (ρ1.set j .emp)
def sRetN : M Fw := fun ρ => .ok (.rt .non) ρ
def sIf (t : M Bool) (f k : M Fw) : M Fw := fun ρ => (t ρ).bind fun b ρ1 => if b = true then f ρ1 else k ρ1
/-- targets -/
abbrev Tg := PV → List PV → Option (List PV)
def gN (i : Nat) : Tg := setAt i
def gL : List Tg → List PV → List PV → Option (List PV)
  | [], [], ρ => some ρ
  | t :: ts, x :: xs, ρ => match t x ρ with
    | some ρ1 => gL ts xs ρ1
    | none => none
  | _, _, _ => none
def gT (ts : List Tg) : Tg := fun a ρ => match a with
  | .tup xs => gL ts xs ρ
  | _ => none
def sAsg (t : Tg) (f : M Hd) : M Fw := fun ρ => (f ρ).bind fun h ρ1 => match take ρ1 h with
  | some (a, ρ2) => ofL (t a ρ2)
  | none => .stuck
/-- x[i] = e -/
def sSub (fo fi fv : M Hd) : M Fw := fun ρ => (fv ρ).bind fun h0 ρ1 => (fo ρ1).bind fun h1 ρ2 => (fi ρ2).bind fun h2 ρ3 => match h1, take ρ3 h0 with
  | .sl j, some (a, ρ4) => (match nth ρ4 j, hv ρ4 h2 with
    | .lst .fz _, _ => .stuck
    | .lst o xs, .int k => (match ixN xs.length k with
      | some m => .ok .nx (ρ4.set j (.lst o (xs.set m a)))
      | none => .stuck)
    | _, _ => .stuck)
  | _, _ => .stuck
/-- x.f = e, f the i-th attribute of the class c -/
def putA (xs : List PV) (i : Nat) (a : PV) : Option (List PV) := if i < xs.length then some (xs.set i a) else if i = xs.length then some (xs ++ [a]) else none
def sAt (c : String) (i : Nat) (fo fv : M Hd) : M Fw := fun ρ => (fv ρ).bind fun h0 ρ1 => (fo ρ1).bind fun h1 ρ2 => match h1, take ρ2 h0 with
  | .sl j, some (a, ρ3) => (match nth ρ3 j with
    | .obj .fz _ _ => .stuck
    | .obj o c' xs => if c' = c then (match putA xs i a with
      | some ys => .ok .nx (ρ3.set j (.obj o c' ys))
      | none => .stuck) else .stuck
    | _ => .stuck)
  | _, _ => .stuck
def loop (t : Tg) (f : M Fw) : List PV → M Fw
  | [], ρ => .ok .nx ρ
  | x :: xs, ρ => match t x ρ with
    | some ρ1 => (match f ρ1 with
      | .ok .nx ρ2 => loop t f xs ρ2
      | .ok .ct ρ2 => loop t f xs ρ2
      | .ok .bk ρ2 => .ok .nx ρ2
      | r => r)
    | none => .stuck
def sFor (fi : M (List PV)) (t : Tg) (f : M Fw) : M Fw := fun ρ => (fi ρ).bind fun xs ρ1 => loop t f xs ρ1
def wh (t : M Bool) (f : M Fw) : Nat → M Fw
  | 0, _ => .stuck
  | n + 1, ρ => (t ρ).bind fun b ρ1 => if b = true then (match f ρ1 with
      | .ok .nx ρ2 => wh t f n ρ2
      | .ok .ct ρ2 => wh t f n ρ2
      | .ok .bk ρ2 => .ok .nx ρ2
      | r => r) else .ok .nx ρ1
def tYesV : M Bool := fun ρ => .ok true ρ

section
variable {g : G} {X : Cx} {e o tg iter : Expr} {st : Stmt} {rest : List Stmt} {f k : M Fw} {fe fo fi fv : M Hd} {ft : M Bool} {pos : Pos}

/-! ### small statements -/
theorem bv_nil : BV g X [] sNx := bv_of pss_nil fun D σ H ρ τ ft h hP => hP σ H ft h
theorem bv_one (h : SV g X st f) : BV g X [st] f := pss_one h
theorem bv_cons (h1 : SV g X st f) (h2 : BV g X rest k) : BV g X (st :: rest) (sSeq f k) :=
  bv_of (pss_cons h1 h2) fun D σ H ρ τ ft h hP => ⟨ρ, τ, ft, h, by
    unfold sSeq at hP
    cases e : f ρ with
    | ok a ρ1 =>
      rw [e] at hP
      cases a with
      | nx => exact fun σ' H' f' h' => ⟨ρ1, τ, f', h', hP⟩
      | rt a => exact hP
      | bk => exact hP
      | ct => exact hP
    | exc c xs ρ1 => rw [e] at hP; exact hP
    | stuck => rw [e] at hP; exact hP⟩
theorem sv_pass : SV g X (.Pass pos) sNx := sv_of ps_pass fun D σ H ρ τ ft h hP => hP σ H ft h
theorem sv_break : SV g X (.Break pos) sBk := sv_of ps_break fun D σ H ρ τ ft h hP => hP σ H ft h
theorem sv_continue : SV g X (.Continue pos) sCt := sv_of ps_continue fun D σ H ρ τ ft h hP => hP σ H ft h
theorem sv_expr (he : EV g X e fe) (hs : swapsWith e none pos.line X.env = pure false := by rfl) : SV g X (.Expr e pos) (sE fe) :=
  sv_of (ps_expr he hs) fun D σ H ρ τ ft h hP => stepES ft h hP fun h1 ρ1 hP1 v H1 f1 s1 k1 => hP1 σ H1 f1 k1.right
theorem setAt_ok {i : Nat} {a : PV} {ρ ρ' : List PV} {σ : L2.St} {H : Hp} {v : V} {τ : Its} (ft : Fits g.s0 ρ σ) (h : Hold g.T H ((a, v) :: (its ρ σ ++ τ))) (e : setAt i a ρ = some ρ') : Fits g.s0 ρ' (σ.set i (some v)) ∧ Hold g.T H (its ρ' (σ.set i (some v)) ++ τ) := by
  unfold setAt at e
  split at e
  · cases e
  · rename_i hc
    cases e
    simp only [Bool.not_eq_true, Bool.or_eq_false_iff] at hc
    refine ⟨ft.set hc.1 hc.2, ?_⟩
    by_cases hi : i < ρ.length
    · exact h.slot ft hi
    · rw [List.set_eq_of_length_le (by omega), List.set_eq_of_length_le (by rw [ft.len]; omega)]
      exact h.tail
theorem keep_ok {ρ ρ' : List PV} {σ : L2.St} {H : Hp} {v : V} {τ : Its} {h : Hd} {a : PV} (ft : Fits g.s0 ρ σ) (c : slotAt σ h v) (hh : Hold g.T H (hit h v ++ (its ρ σ ++ τ))) (e : keep h ρ = some (a, ρ')) : Fits g.s0 ρ' σ ∧ Hold g.T H ((a, v) :: (its ρ' σ ++ τ)) := by
  cases h with
  | tm b =>
    simp only [keep, Option.some.injEq, Prod.mk.injEq] at e
    obtain ⟨rfl, rfl⟩ := e
    exact ⟨ft, hh⟩
  | sl i =>
    obtain ⟨f1, _, k1⟩ := take_ok ft c hh e
    exact ⟨f1, k1⟩
theorem sv_set {i : Nat} {x : Str} {pos' : Pos} (hN : X.N.Nodup) (hi : X.N[i]? = some x) (hx : Loc X.env.scope x) (he : EV g X e fe) (hs : swapsWith e (some (.Name x pos')) pos.line X.env = pure false := by rfl)
    (hf : X.fn x = true ∨ X.env.scope.names.lookup x = some .local := by first | exact .inl rfl | exact .inr rfl | assumption) : SV g X (.Assign [.Name x pos'] e pos) (sSet i fe) :=
  sv_of (ps_set hN hi hx he hs hf) fun D σ H ρ τ ft h hP => stepES ft h hP fun h1 ρ1 hP1 v H1 f1 s1 k1 => by
    cases e1 : keep h1 ρ1 with
    | none => simp only [e1] at hP1; exact hP1.elim
    | some p =>
      obtain ⟨a, ρ2⟩ := p
      simp only [e1] at hP1
      obtain ⟨f2, k2⟩ := keep_ok f1 s1 k1 e1
      cases e2 : setAt i a ρ2 with
      | none => rw [e2] at hP1; exact hP1.elim
      | some ρ3 =>
        rw [e2] at hP1
        obtain ⟨f3, k3⟩ := setAt_ok f2 k2 e2
        exact hP1 _ H1 f3 k3
theorem sv_ret (he : EV g X e fe) : SV g X (.Return (some e) pos) (sRet fe) :=
  sv_of (ps_ret he) fun D σ H ρ τ ft h hP => stepES ft h hP fun h1 ρ1 hP1 v H1 f1 s1 k1 => by
    cases h1 with
    | tm a => exact hP1 v σ H1 f1 k1
    | sl j =>
      simp only at hP1
      split at hP1
      · exact hP1.elim
      · rename_i hc
        have cj := s1 j rfl
        have k2 : Hold g.T H1 (its ρ1 σ ++ τ) := by simpa [hit] using k1
        exact hP1 v σ H1 (f1.re cj fun z => by cases z) (k2.slotOut f1 cj)
theorem sv_retN : SV g X (.Return none pos) sRetN := sv_of ps_retN fun D σ H ρ τ ft h hP => hP .non σ H ft h.non
theorem sv_if {c : Expr} {a b : List Stmt} (hc : TV g X c ft) (ha : BV g X a f) (hb : BV g X b k) : SV g X (.If c a b pos) (sIf ft f k) :=
  sv_of (ps_if hc ha hb) fun D σ H ρ τ fit h hP => stepTS fit h hP fun c ρ1 hP1 H1 f1 k1 => by
    cases c with
    | true => exact ⟨ρ1, τ, f1, k1, hP1⟩
    | false => exact ⟨ρ1, τ, f1, k1, hP1⟩

/-! ### targets -/
theorem wipe_set (σ : L2.St) (i : Nat) : ∀ is : List Nat, (wipe σ is).set i none = wipe (σ.set i none) is
  | [] => rfl
  | j :: is => by
    show ((wipe σ is).set j none).set i none = (wipe (σ.set i none) is).set j none
    rw [← wipe_set σ i is]
    by_cases e : i = j
    · subst e; rfl
    · rw [List.set_comm _ _ (Ne.symm e)]
theorem wipe_app (σ : L2.St) : ∀ a b : List Nat, wipe σ (a ++ b) = wipe (wipe σ b) a
  | [], _ => rfl
  | i :: a, b => by
    show (wipe σ (a ++ b)).set i none = (wipe (wipe σ b) a).set i none
    rw [wipe_app σ a b]
theorem wipe_comm (σ : L2.St) : ∀ a b : List Nat, wipe (wipe σ a) b = wipe (wipe σ b) a
  | [], _ => rfl
  | i :: a, b => by
    show wipe ((wipe σ a).set i none) b = (wipe (wipe σ b) a).set i none
    rw [← wipe_set, wipe_comm σ a b]
def trG (g : G) (t : Tg) (is : List Nat) : TG := fun v σ H Q => ∃ a ρ τ, Fits g.s0 ρ σ ∧ a.own = false ∧ Hold g.T H ((a, v) :: (its ρ σ ++ τ)) ∧ ∃ ρ', t a ρ = some ρ' ∧ ∀ σ' H', wipe σ' is = wipe σ is → Fits g.s0 ρ' σ' → Hold g.T H' (its ρ' σ' ++ τ) → Q σ' H'
abbrev GV (g : G) (X : Cx) (e : Expr) (t : Tg) (is : List Nat) : Prop := PG X e (trG g t is)
def trGs (g : G) (ts : List Tg) (is : List Nat) : TGs := fun vs σ H Q => ∃ as ρ τ, Fits g.s0 ρ σ ∧ vs.length = as.length ∧ (∀ a ∈ as, a.own = false) ∧ Hold g.T H (as.zip vs ++ (its ρ σ ++ τ)) ∧ ∃ ρ', gL ts as ρ = some ρ' ∧ ∀ σ' H', wipe σ' is = wipe σ is → Fits g.s0 ρ' σ' → Hold g.T H' (its ρ' σ' ++ τ) → Q σ' H'
abbrev GsV (g : G) (X : Cx) (es : List Expr) (ts : List Tg) (is : List Nat) : Prop := PGs X es (trGs g ts is)
theorem pg_mono {t t' : TG} (h : PG X tg t) (q : ∀ v σ H Q, t' v σ H Q → t v σ H Q) : PG X tg t' := ⟨fun pins s σ H v u Q I r hw => h.run pins s σ H v u Q I r (q _ _ _ _ hw)⟩
theorem pgs_mono {es : List Expr} {t t' : TGs} (h : PGs X es t) (q : ∀ v σ H Q, t' v σ H Q → t v σ H Q) : PGs X es t' := ⟨fun pins s σ H v u Q I r hw => h.run pins s σ H v u Q I r (q _ _ _ _ hw)⟩
theorem gv_name {i : Nat} {x : Str} (hN : X.N.Nodup) (hi : X.N[i]? = some x) (hx : Loc X.env.scope x) (hf : X.fn x = true ∨ X.env.scope.names.lookup x = some .local := by first | exact .inl rfl | exact .inr rfl | assumption) : GV g X (.Name x pos) (gN i) [i] :=
  pg_mono (pg_name hN hi hx hf) fun v σ H Q ⟨a, ρ, τ, ft, _, h, ρ', e, q⟩ => by
    obtain ⟨f2, k2⟩ := setAt_ok ft h e
    exact q _ _ (by show (σ.set i (some v)).set i none = σ.set i none; rw [List.set_set]) f2 k2
theorem gsv_nil : GsV g X [] [] [] := pgs_mono pgs_nil fun vs σ H Q ⟨as, ρ, τ, ft, hl, ho, h, ρ', e, q⟩ => by
  cases as with
  | nil =>
    simp only [gL, Option.some.injEq] at e
    subst e
    refine ⟨?_, q _ _ rfl ft (by simpa using h)⟩
    cases vs <;> simp at hl; rfl
  | cons a as => cases e
theorem gsv_cons {es : List Expr} {t : Tg} {ts : List Tg} {is is' : List Nat} (h1 : GV g X e t is) (h2 : GsV g X es ts is') (hs : (assignEach (e :: es) X.env).map (·.2) = assign e X.env :: (assignEach es X.env).map (·.2) := by rfl) : GsV g X (e :: es) (t :: ts) (is ++ is') :=
  pgs_mono (pgs_cons h1 h2 hs) fun vs σ H Q ⟨as, ρ, τ, ft, hl, ho, h, ρ', e, q⟩ => by
    cases as with
    | nil => cases e
    | cons a as =>
      cases vs with
      | nil => simp at hl
      | cons v vs =>
        simp only [gL] at e
        cases e1 : t a ρ with
        | none => rw [e1] at e; cases e
        | some ρ1 =>
          rw [e1] at e
          rw [List.zip_cons_cons, List.cons_append] at h
          have k1 : Hold g.T H ((a, v) :: (its ρ σ ++ (as.zip vs ++ τ))) := h.perm (permc fun _ x => by simp only [List.count_append, List.count_cons]; omega)
          refine ⟨v, vs, rfl, a, ρ, _, ft, ho a List.mem_cons_self, k1, ρ1, e1, fun σ' H' w' f' k' => ?_⟩
          refine ⟨as, ρ1, τ, f', by simpa using hl, fun b hb => ho b (List.mem_cons_of_mem _ hb), k'.perm (permc fun _ x => by simp only [List.count_append]; omega), ρ', e, fun σ2 H2 w2 => q σ2 H2 ?_⟩
          rw [wipe_app, wipe_app, w2, wipe_comm σ', w', wipe_comm σ]
theorem gv_tup {es : List Expr} {k : Nat} {ts : List Tg} {n : Nat} {is : List Nat} (hK : X.K = g.T.K) (hc : X.calm = true) (h : GsV g X es ts is) (hl : ts.length = n) (hn : (assignEach es X.env).length = n := by rfl) (hst : (assignEach es X.env).findIdx? (·.1) = none := by rfl) : GV g X (.Tuple es k pos) (gT ts) is :=
  pg_mono (pg_tup hc h hn hst) fun v σ H Q ⟨a, ρ, τ, ft, ho, h, ρ', e, q⟩ => by
    cases a <;> simp only [gT] at e <;> try cases e
    rename_i xs
    have kk := h
    obtain ⟨F, s, o, nn, d⟩ := h
    obtain ⟨p, vs, ev, hp, r⟩ := o _ List.mem_cons_self
    simp only at ev
    subst ev
    simp only [PV.own, PV.fl, Bool.false_eq_true, if_false] at hp
    have own : ∀ x ∈ xs, x.own = false := fun x hx => by
      obtain ⟨i, hi⟩ := List.mem_iff_getElem?.mp hx
      obtain ⟨_, _, _, z⟩ := r.at hi
      exact z
    have gll : ∀ {ts : List Tg} {xs ρ ρ' : List PV}, gL ts xs ρ = some ρ' → xs.length = ts.length := by
      intro ts
      induction ts with
      | nil => intro xs ρ ρ' e; cases xs <;> simp [gL] at e; rfl
      | cons t ts ih =>
        intro xs ρ ρ' e
        cases xs with
        | nil => simp [gL] at e
        | cons x xs =>
          simp only [gL] at e
          split at e
          · simpa using ih e
          · cases e
    refine ⟨p, vs, rfl, by rw [hK]; exact s.seqT hp, by rw [r.length, gll e, hl], xs, ρ, τ, ft, r.length, own, ?_, ρ', e, q⟩
    have base : Hold g.T H (its ρ σ ++ τ) := kk.tail
    -- the items, in this very heap
    have all : ∀ (xs : List PV) (vs : List V), Reps g.T F xs vs → ∀ l : Its, (∀ x ∈ l, Own g.T H F x.1 x.2) ∧ (fpOf l).Nodup ∧ (∀ p ∈ fpOf l, F p = none) → (∀ x ∈ xs.zip vs ++ l, Own g.T H F x.1 x.2) ∧ (fpOf (xs.zip vs ++ l)).Nodup ∧ ∀ p ∈ fpOf (xs.zip vs ++ l), F p = none := by
      intro xs
      induction xs with
      | nil => intro vs r l hl; simpa using hl
      | cons x xs ih =>
        intro vs r l hl
        obtain ⟨v, vs', rfl, h1, ho, h2⟩ := r.inv
        obtain ⟨q1, q2, q3⟩ := ih vs' h2 l hl
        rw [List.zip_cons_cons, List.cons_append, fpOf_fz ho]
        refine ⟨fun y hy => ?_, q2, q3⟩
        rcases List.mem_cons.mp hy with rfl | hy
        · exact (Own.fz ho).mpr h1
        · exact q1 y hy
    obtain ⟨q1, q2, q3⟩ := all xs vs r (its ρ σ ++ τ) ⟨fun x hx => o x (List.mem_cons_of_mem _ hx), by rw [fpOf_fz rfl] at nn; exact nn, by rw [fpOf_fz rfl] at d; exact d⟩
    exact ⟨F, s, q1, q2, q3⟩
theorem sv_asg {t : Tg} {is : List Nat} (he : EV g X e fe) (hg : GV g X tg t is) (hs : swapsWithSole [tg] e pos.line X.env = pure false := by rfl) (hw : swappedStores [tg] e X.env = pure none := by rfl)
    (h1 : (assignEach [tg] X.env).map (·.2) = [assign tg X.env] := by rfl) : SV g X (.Assign [tg] e pos) (sAsg t fe) :=
  sv_of (ps_asg he hg hs hw h1) fun D σ H ρ τ ft h hP => stepES ft h hP fun h1 ρ1 hP1 v H1 f1 s1 k1 => by
    cases e1 : take ρ1 h1 with
    | none => simp only [e1] at hP1; exact hP1.elim
    | some p =>
      obtain ⟨a, ρ2⟩ := p
      simp only [e1] at hP1
      obtain ⟨f2, o2, k2⟩ := take_ok f1 s1 k1 e1
      cases e2 : t a ρ2 with
      | none => rw [e2] at hP1; exact hP1.elim
      | some ρ3 =>
        rw [e2] at hP1
        exact ⟨a, ρ2, τ, f2, o2, k2, ρ3, e2, fun σ' H' _ f' k' => hP1 σ' H' f' k'⟩
end
end VL

set_option Elab.async false
set_option linter.all false
set_option maxRecDepth 100000
/-! Stores, loops, comprehensions by values. -/
namespace VL
open PySem PySem.Spec PyProof.Rows L2

/-! ### what a for walks -/
def PI1 (g : G) (σ : L2.St) (τ : Its) (R : It → Hp → Prop) (xs : List PV) (ρ : List PV) : Prop :=
  ∀ (J : It) (H' : Hp) (τx : Its) (K : Hp → Prop) (Y : Nat → Hp → V → Hp → Prop), Walk J xs.length K Y → (∀ H l, Hold g.T H (τx ++ l) → K H) →
    (∀ i H x H' l a, xs[i]? = some a → Hold g.T H (τx ++ l) → Y i H x H' → Hold g.T H' ((a, x) :: (τx ++ l))) → (∀ a ∈ xs, a.own = false) → Fits g.s0 ρ σ → Hold g.T H' (τx ++ (its ρ σ ++ τ)) → R J H'
def trI (g : G) (f : M (List PV)) : TI := fun σ H R => ∃ ρ τ, Fits g.s0 ρ σ ∧ Hold g.T H (its ρ σ ++ τ) ∧ Post g σ τ (PI1 g σ τ R) (f ρ)
abbrev IV (g : G) (X : Cx) (tg iter : Expr) (f : M (List PV)) : Prop := PI X tg iter (trI g f)
def seqOf : PV → Option (List PV)
  | .lst _ xs => some xs
  | .tup xs => some xs
  | .scr ns => some (ns.map .int)
  | _ => none
def ofX (ρ : List PV) : Option (List PV) → R (List PV)
  | some xs => .ok xs ρ
  | none => .stuck
def iSeq (f : M Hd) : M (List PV) := fun ρ => (f ρ).bind fun h ρ1 => match take ρ1 h with
  | some (a, ρ2) => ofX ρ2 (seqOf a)
  | none => .stuck
def iRg1 (fs : M (List Hd)) : M (List PV) := fun ρ => (fs ρ).bind fun hs ρ1 => match hs.map (hv ρ1) with
  | [.int n] => ofX ρ1 (oRg 0 n)
  | _ => .stuck
def iRg2 (fs : M (List Hd)) : M (List PV) := fun ρ => (fs ρ).bind fun hs ρ1 => match hs.map (hv ρ1) with
  | [.int a, .int b] => ofX ρ1 (oRg a b)
  | _ => .stuck
section
variable {g : G} {X : Cx} {e o tg iter : Expr} {st : Stmt} {rest : List Stmt} {f k : M Fw} {fe fo fi fv : M Hd} {fs : M (List Hd)} {fx : M (List PV)} {ft tt : M Bool} {pos : Pos} {es : List Expr}
theorem iv_of {t : TI} (h : PI X tg iter t) (q : ∀ σ H R ρ τ, Fits g.s0 ρ σ → Hold g.T H (its ρ σ ++ τ) → Post g σ τ (PI1 g σ τ R) (fx ρ) → t σ H R) : IV g X tg iter fx :=
  ⟨fun pins s σ H R I ⟨ρ, τ, h1, h2, h3⟩ => h.run pins s σ H R I (q σ H R ρ τ h1 h2 h3)⟩
theorem ownAdd {T : Tb} {F H : Hp} {l : Its} {ys : List PV} {vs : List V} {i : Nat} {b : PV} {x : V} (s : Same F H) (o : ∀ x ∈ l, Own T H F x.1 x.2) (n : (fpOf l).Nodup) (d : ∀ p ∈ fpOf l, F p = none) (r : Reps T F ys vs) (hb : ys[i]? = some b) (hx : vs[i]? = some x) : Hold T H ((b, x) :: l) := by
  obtain ⟨w, h1, h2, h3⟩ := r.at hb
  rw [hx] at h1; cases h1
  refine ⟨F, s, fun y hy => ?_, by rw [fpOf_fz h3]; exact n, by rw [fpOf_fz h3]; exact d⟩
  rcases List.mem_cons.mp hy with rfl | hy
  · exact (Own.fz h3).mpr h2
  · exact o y hy
/-- a list at p, wherever it lies -/
theorem lst_at {T : Tb} {fl : Fl} {xs : List PV} {p : Addr} (H : Hp) (l : Its) (k : Hold T H l) (m : (PV.lst fl xs, V.ref p) ∈ l) : ∃ vs : List V, SqL T.K H p vs ∧ vs.length = xs.length ∧ ∀ (i : Nat) (x : V), (∀ ws : List V, SqL T.K H p ws → ws[i]? = some x) → ∀ b, xs[i]? = some b → Hold T H ((b, x) :: l) := by
  obtain ⟨p', vs, ev, h1, hl, _⟩ := k.g_lst m
  cases ev
  obtain ⟨F, s, o, n, d⟩ := k
  exact ⟨vs, SqL.of h1, hl, fun i x hw b hb => ownAdd s o n d (reps_lst s o m h1) hb (hw vs (SqL.of h1))⟩
theorem tup_at {T : Tb} {xs : List PV} {p : Addr} (H : Hp) (l : Its) (k : Hold T H l) (m : (PV.tup xs, V.ref p) ∈ l) : ∃ vs : List V, SqT T.K H p vs ∧ vs.length = xs.length ∧ ∀ (i : Nat) (x : V), (∀ ws : List V, SqT T.K H p ws → ws[i]? = some x) → ∀ b, xs[i]? = some b → Hold T H ((b, x) :: l) := by
  obtain ⟨F, s, o, n, d⟩ := k
  obtain ⟨p', vs, ev, h1, r⟩ := o _ m
  cases ev
  simp only [PV.own, PV.fl, Bool.false_eq_true, if_false] at h1
  exact ⟨vs, s.seqT h1, r.length, fun i x hw b hb => ownAdd s o n d r hb (hw vs (s.seqT h1))⟩
theorem scr_at {T : Tb} {ns : List Int} {p : Addr} (H : Hp) (l : Its) (k : Hold T H l) (m : (PV.scr ns, V.ref p) ∈ l) : ∃ vs : List V, SqL T.K H p vs ∧ vs.length = (ns.map PV.int).length ∧ ∀ (i : Nat) (x : V), (∀ ws : List V, SqL T.K H p ws → ws[i]? = some x) → ∀ b, (ns.map PV.int)[i]? = some b → Hold T H ((b, x) :: l) := by
  obtain ⟨_, s0, ⟨p', ev, h1⟩, _⟩ := k.get m
  cases ev
  obtain ⟨F, s, o, n, d⟩ := k
  exact ⟨_, h1, by simp, fun i x hw b hb => ownAdd s o n d (Reps.ints ns) hb (hw _ h1)⟩
/-- a sequence for good: a list or a tuple at p; its items wherever it lies -/
theorem seq_at {T : Tb} {a : PV} {v : V} {xs : List PV} {H : Hp} {l : Its} (k : Hold T H l) (m : (a, v) ∈ l) (e : seqOf a = some xs) :
    ∃ p, v = .ref p ∧ ((∀ (H : Hp) (l : Its), Hold T H l → (a, V.ref p) ∈ l → ∃ vs : List V, SqL T.K H p vs ∧ vs.length = xs.length ∧ ∀ (i : Nat) (x : V), (∀ ws : List V, SqL T.K H p ws → ws[i]? = some x) → ∀ b, xs[i]? = some b → Hold T H ((b, x) :: l)) ∨
      (∀ (H : Hp) (l : Its), Hold T H l → (a, V.ref p) ∈ l → ∃ vs : List V, SqT T.K H p vs ∧ vs.length = xs.length ∧ ∀ (i : Nat) (x : V), (∀ ws : List V, SqT T.K H p ws → ws[i]? = some x) → ∀ b, xs[i]? = some b → Hold T H ((b, x) :: l))) := by
  cases a <;> simp only [seqOf] at e <;> try cases e
  · obtain ⟨p, vs, rfl, _⟩ := k.g_tup m
    exact ⟨p, rfl, .inr tup_at⟩
  · obtain ⟨p, vs, rfl, _⟩ := k.g_lst m
    exact ⟨p, rfl, .inl lst_at⟩
  · obtain ⟨_, _, ⟨p, rfl, h1⟩, _⟩ := k.get m
    exact ⟨p, rfl, .inl scr_at⟩
theorem walk_L {K : PySem.W.Frag} {a : Addr} {n : Nat} : Walk (Itl K a) n (fun H => ∃ vs, SqL K H a vs ∧ vs.length = n) (fun i H x H' => H' = H ∧ ∀ vs, SqL K H a vs → vs[i]? = some x) :=
  ⟨fun i _ hi ⟨vs, q, hl⟩ => ⟨vs, vs[i]'(by omega), q, by simp⟩, fun _ ⟨vs, q, hl⟩ => ⟨vs, q, by omega⟩, fun _ _ _ _ _ _ y => y⟩
theorem walk_T {K : PySem.W.Frag} {a : Addr} {n : Nat} : Walk (Itt K a) n (fun H => ∃ vs, SqT K H a vs ∧ vs.length = n) (fun i H x H' => H' = H ∧ ∀ vs, SqT K H a vs → vs[i]? = some x) :=
  ⟨fun i _ hi ⟨vs, q, hl⟩ => ⟨vs, vs[i]'(by omega), q, by simp⟩, fun _ ⟨vs, q, hl⟩ => ⟨vs, q, by omega⟩, fun _ _ _ _ _ _ y => y⟩
def iSqV (K : PySem.W.Frag) (tl : TE) : TI := fun σ H R => tl σ H fun x H1 => ∃ a, x = .ref a ∧ (((∃ xs, SqL K H1 a xs) ∧ R (Itl K a) H1) ∨ ((∃ xs, SqT K H1 a xs) ∧ R (Itt K a) H1))
theorem pi_sqV {tl : TE} (hl : PE X e tl) : PI X tg e (iSqV X.K tl) := by
  refine ⟨fun pins s σ H R I h => ?_⟩
  refine thn (hl.run pins s σ H _ I h) fun v s1 ⟨x, H1, I1, r1, q1⟩ => ?_
  obtain ⟨a, ex, hq⟩ := q1
  subst ex
  cases r1
  rcases hq with ⟨⟨xs, hq⟩, q⟩ | ⟨⟨xs, hq⟩, q⟩
  · obtain ⟨its, rv, p, hz⟩ := I1.list hq
    refine wpAny_pyIter_list p.isList ?_
    refine ⟨s1.heap.objs.size, [s1.heap.objs.size], _, _, H1, rfl, I1.kept (t' := s1.toks) fun b o e => Heap.get?_push_of_some _ e, turn_list a _, ⟨_, Heap.get?_push_size _ rfl, rfl, rfl⟩, fun b hb => ?_, q⟩
    have e : b = s1.heap.objs.size := by simpa using hb
    subst e
    exact I1.fpOk (Nat.le_refl _) (I1.hok.fresh (Nat.le_refl _))
  · obtain ⟨its, rv, p, hz⟩ := I1.tuple hq
    refine wpAny_pyIter_tuple (show s1.heap.IsTuple a its.toArray from p) ?_
    refine ⟨s1.heap.objs.size, [s1.heap.objs.size], _, _, H1, rfl, I1.kept (t' := s1.toks) fun b o e => Heap.get?_push_of_some _ e, turn_tuple a _, ⟨_, Heap.get?_push_size _ rfl, rfl, rfl⟩, fun b hb => ?_, q⟩
    have e : b = s1.heap.objs.size := by simpa using hb
    subst e
    exact I1.fpOk (Nat.le_refl _) (I1.hok.fresh (Nat.le_refl _))
theorem items_own {T : Tb} {H : Hp} {l : Its} {a : PV} {v : V} {xs : List PV} (k : Hold T H l) (m : (a, v) ∈ l) (e : seqOf a = some xs) : ∀ b ∈ xs, b.own = false := by
  obtain ⟨F, s, r, _⟩ := k.get m
  have ro : ∀ {xs : List PV} {vs : List V}, Reps T F xs vs → ∀ b ∈ xs, b.own = false := fun r x hx => by
    obtain ⟨i, hi⟩ := List.mem_iff_getElem?.mp hx
    obtain ⟨_, _, _, z⟩ := r.at hi
    exact z
  cases a <;> simp only [seqOf] at e <;> try cases e
  · obtain ⟨_, _, _, _, r⟩ := r; exact ro r
  · obtain ⟨_, _, _, _, r⟩ := r; exact ro r
  · exact ro (Reps.ints (T := T) (F := F) _)
theorem iseq_q (hK : X.K = g.T.K) : ∀ (σ : L2.St) (H : Hp) (R : It → Hp → Prop) (ρ : List PV) (τ : Its), Fits g.s0 ρ σ → Hold g.T H (its ρ σ ++ τ) → Post g σ τ (PI1 g σ τ R) (iSeq fe ρ) → iSqV X.K (trE g fe) σ H R :=
  fun σ H R ρ τ ft h hP => stepE (ε := []) ft (nilT h) hP fun h1 ρ1 hP1 v H1 f1 s1 k1 => by
    rw [List.nil_append] at k1
    cases e1 : take ρ1 h1 with
    | none => simp only [e1] at hP1; exact hP1.elim
    | some p =>
      obtain ⟨a, ρ2⟩ := p
      simp only [e1] at hP1
      obtain ⟨f2, o2, k2⟩ := take_ok f1 s1 k1 e1
      cases e2 : seqOf a with
      | none => rw [e2] at hP1; exact hP1.elim
      | some xs =>
        rw [e2] at hP1
        have own := items_own k2 List.mem_cons_self e2
        obtain ⟨p, rfl, hq⟩ := seq_at k2 List.mem_cons_self e2
        refine ⟨p, rfl, ?_⟩
        rw [hK]
        rcases hq with hq | hq
        · obtain ⟨vs, q1, q2, _⟩ := hq _ _ k2 List.mem_cons_self
          refine .inl ⟨⟨vs, q1⟩, hP1 (Itl g.T.K p) H1 [(a, .ref p)] _ _ walk_L (fun H l k => ?_) (fun i H x H' l b hb k y => ?_) own f2 k2⟩
          · obtain ⟨vs, q1, q2, _⟩ := hq H _ k (by simp)
            exact ⟨vs, q1, q2⟩
          · obtain ⟨_, _, _, q3⟩ := hq H _ k (by simp)
            obtain ⟨rfl, y⟩ := y
            exact q3 i x y b hb
        · obtain ⟨vs, q1, q2, _⟩ := hq _ _ k2 List.mem_cons_self
          refine .inr ⟨⟨vs, q1⟩, hP1 (Itt g.T.K p) H1 [(a, .ref p)] _ _ walk_T (fun H l k => ?_) (fun i H x H' l b hb k y => ?_) own f2 k2⟩
          · obtain ⟨vs, q1, q2, _⟩ := hq H _ k (by simp)
            exact ⟨vs, q1, q2⟩
          · obtain ⟨_, _, _, q3⟩ := hq H _ k (by simp)
            obtain ⟨rfl, y⟩ := y
            exact q3 i x y b hb
theorem iv_seq (hK : X.K = g.T.K) (he : EV g X e fe) : IV g X tg e (iSeq fe) := iv_of (pi_sqV he) (iseq_q hK)
theorem rgL_at {a b : Int} {i : Nat} {x : PV} (h : (rgL a b)[i]? = some x) : x = .int (a + (i : Nat)) := by
  unfold rgL at h
  rw [List.getElem?_map] at h
  cases e : (List.range (b - a).toNat)[i]? with
  | none => rw [e] at h; cases h
  | some j =>
    rw [e] at h
    rw [List.getElem?_range (by have := (List.getElem?_eq_some_iff.mp e).1; simpa using this)] at e
    cases e
    cases h; rfl
theorem rgL_own {a b : Int} : ∀ x ∈ rgL a b, x.own = false := fun x hx => by
  unfold rgL at hx
  obtain ⟨i, _, rfl⟩ := List.mem_map.mp hx
  rfl
theorem rgL_length (a b : Int) : (rgL a b).length = (b - a).toNat := by unfold rgL; simp
theorem one_vals {σ : L2.St} {hs : List Hd} {ρ : List PV} {vs : List V} {a : PV} {l : Its} (c : slotsAt σ hs vs) (e : hs.map (hv ρ) = [a]) (m : ∀ x ∈ (hs.map (hv ρ)).zip vs, x ∈ l) : ∃ v, vs = [v] ∧ (a, v) ∈ l := by
  match hs, e with
  | [h], e =>
    obtain ⟨v, vs', rfl, _, c2⟩ := c
    have c2 : vs' = [] := c2
    subst c2
    simp only [List.map_cons, List.map_nil, List.cons.injEq, and_true] at e
    subst e
    exact ⟨v, rfl, m _ (by simp)⟩
theorem two_vals {σ : L2.St} {hs : List Hd} {ρ : List PV} {vs : List V} {a b : PV} {l : Its} (c : slotsAt σ hs vs) (e : hs.map (hv ρ) = [a, b]) (m : ∀ x ∈ (hs.map (hv ρ)).zip vs, x ∈ l) : ∃ v w, vs = [v, w] ∧ (a, v) ∈ l ∧ (b, w) ∈ l := by
  match hs, e with
  | [h, h'], e =>
    obtain ⟨v, vs', rfl, _, w, vs2, rfl, _, c2⟩ := c
    have c2 : vs2 = [] := c2
    subst c2
    simp only [List.map_cons, List.map_nil, List.cons.injEq, and_true] at e
    obtain ⟨rfl, rfl⟩ := e
    exact ⟨v, w, rfl, m _ (by simp), m _ (by simp)⟩
theorem iv_rg1 {a : Expr} {p : Pos} (hg : Gl X "range") (hm : X.mg "range" = none) (ha : AV g X [a] fs) (hs : starEach [a] X.env = [(false, eval a X.env)] := by rfl) : IV g X tg (.Call (.Name "range" p) [a] [] pos) (iRg1 fs) :=
  iv_of (pi_range1 hg hm ha hs) fun σ H R ρ τ ft h hP => stepA (ε := []) ft (nilT h) hP fun hs ρ1 hP1 vs H1 f1 s1 k1 => by
    rw [List.nil_append] at k1
    obtain ⟨q1, q2⟩ := mems_of (l := hits hs vs ++ (its ρ1 σ ++ τ)) f1 s1 (fun x hx => by simp [hx]) fun x hx => by simp [hx]
    split at hP1
    · rename_i n e
      obtain ⟨v, rfl, m⟩ := one_vals s1 e q2
      cases e2 : oRg 0 n with
      | none => rw [e2] at hP1; exact hP1.elim
      | some xs =>
        rw [e2] at hP1
        obtain ⟨rfl, ok⟩ := rg_ok e2
        refine ⟨n, by rw [k1.g_int m], ok.2.2.1, ok.2.2.2.1, hP1 (Itr 0 n.toNat) H1 [] _ _ (by rw [rgL_length, Int.sub_zero]; exact walk_range) (fun _ _ _ => trivial) (fun i H x H' l a ha k y => ?_) rgL_own f1 (by simpa using k1.right)⟩
        obtain ⟨rfl, rfl⟩ := y
        rw [rgL_at ha]
        exact k.int
    · exact hP1.elim
theorem iv_rg2 {a b : Expr} {p : Pos} (hg : Gl X "range") (hm : X.mg "range" = none) (ha : AV g X [a, b] fs) (hs : starEach [a, b] X.env = [(false, eval a X.env), (false, eval b X.env)] := by rfl) (hs2 : starEach [b] X.env = [(false, eval b X.env)] := by rfl) : IV g X tg (.Call (.Name "range" p) [a, b] [] pos) (iRg2 fs) :=
  iv_of (pi_range2 hg hm ha hs hs2) fun σ H R ρ τ ft h hP => stepA (ε := []) ft (nilT h) hP fun hs ρ1 hP1 vs H1 f1 s1 k1 => by
    rw [List.nil_append] at k1
    obtain ⟨q1, q2⟩ := mems_of (l := hits hs vs ++ (its ρ1 σ ++ τ)) f1 s1 (fun x hx => by simp [hx]) fun x hx => by simp [hx]
    split at hP1
    · rename_i a b e
      obtain ⟨v, w, rfl, m1, m2⟩ := two_vals s1 e q2
      cases e2 : oRg a b with
      | none => rw [e2] at hP1; exact hP1.elim
      | some xs =>
        rw [e2] at hP1
        obtain ⟨rfl, ok⟩ := rg_ok e2
        refine ⟨a, b, by rw [k1.g_int m1, k1.g_int m2], ⟨ok.1, ok.2.1, ok.2.2.1, ok.2.2.2.1⟩, hP1 (Itr a (b - a).toNat) H1 [] _ _ (by rw [rgL_length]; exact walk_range) (fun _ _ _ => trivial) (fun i H x H' l c hc k y => ?_) rgL_own f1 (by simpa using k1.right)⟩
        obtain ⟨rfl, rfl⟩ := y
        rw [rgL_at hc]
        exact k.int
    · exact hP1.elim

/-! ### for, while -/
theorem ps1_more {D D' : Ends} {τ τx : Its} {ρ' : List PV} (nx : ∀ ρ2, f ρ' = .ok .nx ρ2 ∨ f ρ' = .ok .ct ρ2 → ∀ σ H, Fits g.s0 ρ2 σ → Hold g.T H (its ρ2 σ ++ (τx ++ τ)) → D'.nx σ H ∧ D'.ct σ H)
    (bk : D'.bk = D.nx) (rt : D'.rt = D.rt) (hP : PS1 g τ D (match f ρ' with
      | .ok .nx ρ2 => k ρ2
      | .ok .ct ρ2 => k ρ2
      | .ok .bk ρ2 => .ok .nx ρ2
      | r => r)) : PS1 g (τx ++ τ) D' (f ρ') := by
  have dn : ∀ {l : Its} {H : Hp} {ρ2 : List PV} {σ : L2.St}, Hold g.T H (l ++ (its ρ2 σ ++ (τx ++ τ))) → Hold g.T H (l ++ (its ρ2 σ ++ τ)) := fun k => k.sub (List.Sublist.append_left (List.Sublist.append_left (List.sublist_append_right ..) _) _)
  cases e : f ρ' with
  | ok a ρ2 =>
    rw [e] at hP nx
    cases a with
    | nx => exact fun σ H f' k' => (nx ρ2 (.inl rfl) σ H f' k').1
    | ct => exact fun σ H f' k' => (nx ρ2 (.inr rfl) σ H f' k').2
    | bk => intro σ H f' k'; rw [bk]; exact hP σ H f' (dn (l := []) k')
    | rt a => intro v σ H f' k'; rw [rt]; exact hP v σ H f' (dn (l := [(a, v)]) k')
  | exc c xs ρ2 => rw [e] at hP; exact fun d vs σ H f' hx hl k' => hP d vs σ H f' hx hl (dn k')
  | stuck => rw [e] at hP; exact hP.elim
theorem for_q {t : Tg} {is : List Nat} : ∀ (D : Ends) (σ : L2.St) (H : Hp) (ρ : List PV) (τ : Its), Fits g.s0 ρ σ → Hold g.T H (its ρ σ ++ τ) → PS1 g τ D (sFor fx t f ρ) → tFor (trI g fx) (trG g t is) (trS g f) D σ H := by
    intro D σ H ρ τ ft h hP
    refine ⟨ρ, τ, ft, h, ?_⟩
    cases e : fx ρ with
    | stuck => unfold sFor at hP; rw [e] at hP; exact hP
    | exc c xs ρ1 => unfold sFor at hP; rw [e] at hP; exact fun d vs H' => hP d vs σ H'
    | ok xs ρ1 =>
      unfold sFor at hP
      rw [e] at hP
      intro J H' τx K Y w hG hY own f1 k1
      refine for_it w (fun i σ H => ∃ ρ, Fits g.s0 ρ σ ∧ Hold g.T H (τx ++ (its ρ σ ++ τ)) ∧ PS1 g τ D (loop t f (xs.drop i) ρ)) ⟨ρ1, f1, k1, hP⟩ (fun i σ H _ ⟨ρ, _, k, _⟩ => hG H _ k) (fun i x σ H H2 hi ⟨ρ, f2, k2, hP2⟩ y => ?_) fun σ H ⟨ρ, f2, k2, hP2⟩ => ?_
      · have hd : xs.drop i = xs[i] :: xs.drop (i + 1) := List.drop_eq_getElem_cons hi
        rw [hd] at hP2
        have k3 := hY i H x H2 _ xs[i] (List.getElem?_eq_getElem hi) k2 y
        simp only [loop] at hP2
        cases e2 : t xs[i] ρ with
        | none => rw [e2] at hP2; exact hP2.elim
        | some ρ2 =>
          rw [e2] at hP2
          simp only at hP2
          refine ⟨xs[i], ρ, τx ++ τ, f2, own _ (List.getElem_mem hi), k3.perm (permc fun _ x => by simp only [List.count_append, List.count_cons]; omega), ρ2, e2, fun σ' H'' _ f' k' => ⟨ρ2, τx ++ τ, f', k', ?_⟩⟩
          refine ps1_more (D := D) (k := fun ρ2 => loop t f (xs.drop (i + 1)) ρ2) (fun ρ3 h3 σ3 H3 f3 k3 => ?_) rfl rfl hP2
          have : PS1 g τ D (loop t f (xs.drop (i + 1)) ρ3) := by
            rcases h3 with h3 | h3 <;> rw [h3] at hP2 <;> exact hP2
          exact ⟨⟨ρ3, f3, mid k3, this⟩, ⟨ρ3, f3, mid k3, this⟩⟩
      · rw [List.drop_length] at hP2
        exact hP2 σ H f2 k2.right
theorem sv_for {body : List Stmt} {t : Tg} {is : List Nat} (hp : PassesOwn (model X.prog X.w) X.A X.env X.xe) (hc : X.calm = true) (hi : IV g X tg iter fx) (hg : GV g X tg t is) (hb : BV g X body f)
    (hs : ∀ x, foldedSetIterable iter X.env x = pure x := by intro _; rfl) : SV g X (.For tg iter body [] pos) (sFor fx t f) :=
  sv_of (ps_for hp hc hi hg hb hs) for_q
def sWh (n : Nat) (t : M Bool) (f : M Fw) : M Fw := wh t f n
theorem sv_while {c : Expr} {body : List Stmt} {n : Nat} (hp : PassesOwn (model X.prog X.w) X.A X.env X.xe) (hc : TV g X c tt) (hb : BV g X body f) : SV g X (.While c body [] pos) (sWh n tt f) :=
  sv_of (ps_while hp hc hb) fun D σ H ρ τ ft h hP => by
    refine ⟨fun m σ H => ∃ ρ, Fits g.s0 ρ σ ∧ Hold g.T H (its ρ σ ++ τ) ∧ PS1 g τ D (wh tt f m ρ), ⟨n, ρ, ft, h, hP⟩, ?_⟩
    rintro m σ H ⟨ρ, ft, h, hP⟩
    cases m with
    | zero => exact hP.elim
    | succ m =>
      simp only [wh] at hP
      refine stepTS ft h hP fun b ρ1 hP1 H1 f1 k1 => ?_
      cases b with
      | false => exact hP1 σ H1 f1 k1
      | true =>
        simp only [if_true] at hP1 ⊢
        refine ⟨fun σ' H' => ∃ ρ, Fits g.s0 ρ σ' ∧ Hold g.T H' (its ρ σ' ++ τ) ∧ PS1 g τ D (wh tt f m ρ), fun σ' H' q => ⟨m, Nat.lt_succ_self _, q⟩, ρ1, τ, f1, k1, ?_⟩
        refine ps1_more (τx := []) (D := D) (k := fun ρ2 => wh tt f m ρ2) (fun ρ3 h3 σ3 H3 f3 k3 => ?_) rfl rfl hP1
        have : PS1 g τ D (wh tt f m ρ3) := by
          rcases h3 with h3 | h3 <;> rw [h3] at hP1 <;> exact hP1
        exact ⟨⟨ρ3, f3, by simpa using k3, this⟩, ⟨ρ3, f3, by simpa using k3, this⟩⟩
end
end VL

set_option Elab.async false
set_option linter.all false
set_option maxRecDepth 100000
/-! Comprehensions, defs by values. -/
namespace VL
open PySem PySem.Spec PyProof.Rows L2

/-! ### a comprehension's own names -/
/-- what stood in the slots ahead of it -/
def restP (ρ2 : List PV) (ρ : List PV) : List Nat → List PV
  | [] => ρ2
  | i :: is => (restP ρ2 ρ is).set i (nth ρ i)
def wipeQ (ρ : List PV) : List Nat → List PV
  | [] => ρ
  | i :: is => (wipeQ ρ is).set i .emp
theorem wipeQ_len (ρ : List PV) : ∀ is, (wipeQ ρ is).length = ρ.length
  | [] => rfl
  | i :: is => by simp [wipeQ, wipeQ_len ρ is]
theorem restP_len (ρ2 ρ : List PV) : ∀ is, (restP ρ2 ρ is).length = ρ2.length
  | [] => rfl
  | i :: is => by simp [restP, restP_len ρ2 ρ is]
theorem wipeQ_in {ρ : List PV} {i : Nat} : ∀ {is : List Nat}, i ∈ is → nth (wipeQ ρ is) i = .emp
  | j :: is, h => by
    unfold wipeQ
    by_cases e : j = i
    · subst e
      by_cases l : j < (wipeQ ρ is).length
      · exact nth_set_same l
      · exact nth_out (by simp; omega)
    · rw [nth_set_ne e]
      exact wipeQ_in ((List.mem_cons.mp h).resolve_left fun z => e z.symm)
theorem wipeQ_out {ρ : List PV} {i : Nat} : ∀ {is : List Nat}, i ∉ is → nth (wipeQ ρ is) i = nth ρ i
  | [], _ => rfl
  | j :: is, h => by
    unfold wipeQ
    simp only [List.mem_cons, not_or] at h
    rw [nth_set_ne (Ne.symm h.1)]
    exact wipeQ_out h.2
section
variable {T : Tb} {H : Hp} {s0 : L2.St} {ρ ρ2 : List PV} {σ : L2.St} {l : Its}
theorem wipe_out {σ : L2.St} {i : Nat} : ∀ {is : List Nat}, i ∉ is → (wipe σ is)[i]? = σ[i]?
  | [], _ => rfl
  | j :: is, h => by
    simp only [List.mem_cons, not_or] at h
    show ((wipe σ is).set j none)[i]? = _
    rw [List.getElem?_set_ne (Ne.symm h.1)]
    exact wipe_out h.2
theorem its_split : ∀ {ρ : List PV} {σ : L2.St} {i : Nat}, σ.length = ρ.length → i < ρ.length → ∃ A B, ∀ a s, its (ρ.set i a) (σ.set i s) = A ++ (a, s.getD .non) :: B
  | [], _, _, _, h => by simp at h
  | _ :: _, [], _, h, _ => by simp at h
  | x :: ρ, t :: σ, 0, _, _ => ⟨[], its ρ σ, fun a s => by simp [its]⟩
  | x :: ρ, t :: σ, i + 1, h, hi => by
    obtain ⟨A, B, e⟩ := its_split (ρ := ρ) (σ := σ) (i := i) (by simpa using h) (by simpa using hi)
    exact ⟨(x, t.getD .non) :: A, B, fun a s => by simp only [List.set_cons_succ, its, e, List.cons_append]⟩
theorem set_nth : ∀ {ρ : List PV} {i : Nat}, ρ.set i (nth ρ i) = ρ
  | [], _ => rfl
  | _ :: _, 0 => rfl
  | x :: ρ, i + 1 => by simp [set_nth]
theorem set_get {σ : L2.St} {i : Nat} : σ.set i (σ[i]?.getD none) = σ := by
  cases e : σ[i]? with
  | none => rw [List.set_eq_of_length_le (List.getElem?_eq_none_iff.mp e)]
  | some s => exact set_self e
/-- a slot without a value: what lies at its place doesn't matter -/
theorem Hold.reSlot {i : Nat} {s : Option V} (h : Hold T H (its ρ σ ++ l)) (hl : σ.length = ρ.length) (e : nth ρ i = .emp) : Hold T H (its ρ (σ.set i s) ++ l) := by
  by_cases hi : i < ρ.length
  · obtain ⟨A, B, q⟩ := its_split (ρ := ρ) (σ := σ) hl hi
    have e1 := q (nth ρ i) (σ[i]?.getD none)
    have e2 := q (nth ρ i) s
    rw [set_nth, set_get] at e1
    rw [set_nth] at e2
    rw [e1, e] at h
    rw [e2, e]
    have h1 : Hold T H (A ++ B ++ l) := h.sub (by
      simp only [List.append_assoc, List.cons_append]
      exact List.Sublist.append_left (List.sublist_cons_self ..) _)
    exact (h1.emp (v := s.getD .non)).perm (permc fun _ x => by simp only [List.count_append, List.count_cons]; omega)
  · rw [List.set_eq_of_length_le (by omega)]; exact h
theorem Fits.wipe1 {i : Nat} (f : Fits s0 ρ σ) : Fits s0 (ρ.set i .emp) (σ.set i none) := by
  refine ⟨by simp [f.len], fun j hj => ?_, fun j hj => ?_⟩
  · by_cases c : i = j
    · subst c
      by_cases l : i < ρ.length
      · rw [nth_set_same l] at hj; cases hj
      · rw [nth_out (by simp; omega)] at hj; cases hj
    · rw [nth_set_ne c] at hj
      rw [List.getElem?_set_ne c]
      exact f.has j hj
  · by_cases c : i = j
    · subst c
      by_cases l : i < ρ.length
      · rw [nth_set_same l] at hj; cases hj
      · rw [nth_out (by simp; omega)] at hj; cases hj
    · rw [nth_set_ne c] at hj
      rw [List.getElem?_set_ne c]
      exact f.io j hj
/-- the slots' items put aside, and put back -/
theorem saveOut : ∀ {is : List Nat} {ρ : List PV} {σ : L2.St} {l : Its} {H : Hp}, is.Nodup → Fits s0 ρ σ → Hold T H (its ρ σ ++ l) → ∃ S : Its, Fits s0 (wipeQ ρ is) (wipe σ is) ∧ Hold T H (its (wipeQ ρ is) (wipe σ is) ++ (S ++ l)) ∧
    ∀ (ρ2 : List PV) (H2 : Hp) (l2 : Its), Fits s0 ρ2 (wipe σ is) → (∀ i ∈ is, nth ρ2 i = .emp) → Hold T H2 (its ρ2 (wipe σ is) ++ (S ++ l2)) → Fits s0 (restP ρ2 ρ is) σ ∧ Hold T H2 (its (restP ρ2 ρ is) σ ++ l2)
  | [], ρ, σ, l, H, _, f, h => ⟨[], f, by simpa [wipeQ, wipe] using h, fun ρ2 H2 l2 f2 _ h2 => ⟨f2, by simpa [restP, wipe] using h2⟩⟩
  | i :: is, ρ, σ, l, H, nd, f, h => by
    obtain ⟨ni, nd⟩ := List.nodup_cons.mp nd
    obtain ⟨S, f1, h1, q⟩ := saveOut (is := is) nd f h
    have fs : Fits s0 ((wipeQ ρ is).set i .emp) ((wipe σ is).set i none) := f1.wipe1
    have len1 := f1.len
    -- the slot holds something, or nothing
    cases e : (wipe σ is)[i]? with
    | none =>
      have out : (wipeQ ρ is).length ≤ i := by rw [← len1]; exact List.getElem?_eq_none_iff.mp e
      refine ⟨S, fs, ?_, fun ρ2 H2 l2 f2 he h2 => ?_⟩
      · show Hold T H (its ((wipeQ ρ is).set i .emp) ((wipe σ is).set i none) ++ (S ++ l))
        rw [List.set_eq_of_length_le out, List.set_eq_of_length_le (by omega)]; exact h1
      · have e2 : wipe σ (i :: is) = wipe σ is := by show (wipe σ is).set i none = _; rw [List.set_eq_of_length_le (by omega)]
        rw [e2] at f2 h2
        obtain ⟨q1, q2⟩ := q ρ2 H2 l2 f2 (fun j hj => he j (List.mem_cons_of_mem _ hj)) h2
        have e3 : restP ρ2 ρ (i :: is) = restP ρ2 ρ is := by
          show (restP ρ2 ρ is).set i _ = _
          rw [List.set_eq_of_length_le (by rw [restP_len]; have := f2.len; omega)]
        rw [e3]; exact ⟨q1, q2⟩
    | some s =>
      have hi : i < (wipeQ ρ is).length := by rw [← len1]; exact (List.getElem?_eq_some_iff.mp e).1
      have en : nth (wipeQ ρ is) i = nth ρ i := wipeQ_out ni
      have es : σ[i]? = some s := by rw [← wipe_out ni]; exact e
      cases s with
      | none =>
        have ee : nth (wipeQ ρ is) i = .emp := by
          cases k : (nth (wipeQ ρ is) i).isEmp with
          | true => cases k2 : nth (wipeQ ρ is) i <;> rw [k2] at k <;> first | rfl | cases k
          | false => obtain ⟨v, hv⟩ := f1.has i k; rw [e] at hv; cases hv
        have er : (wipeQ ρ is).set i .emp = wipeQ ρ is := by rw [← ee]; exact set_nth
        have ew : (wipe σ is).set i none = wipe σ is := set_self e
        refine ⟨S, fs, by show Hold T H (its ((wipeQ ρ is).set i .emp) ((wipe σ is).set i none) ++ (S ++ l)); rw [er, ew]; exact h1, fun ρ2 H2 l2 f2 he h2 => ?_⟩
        have e2 : wipe σ (i :: is) = wipe σ is := ew
        rw [e2] at f2 h2
        obtain ⟨q1, q2⟩ := q ρ2 H2 l2 f2 (fun j hj => he j (List.mem_cons_of_mem _ hj)) h2
        have e4 : nth (restP ρ2 ρ is) i = .emp := by
          have z : ∀ is : List Nat, i ∉ is → nth (restP ρ2 ρ is) i = nth ρ2 i := by
            intro is
            induction is with
            | nil => intro _; rfl
            | cons j is ih =>
              intro h
              simp only [List.mem_cons, not_or] at h
              show nth ((restP ρ2 ρ is).set j _) i = _
              rw [nth_set_ne (Ne.symm h.1)]
              exact ih h.2
          rw [z is ni]; exact he i List.mem_cons_self
        have e3 : restP ρ2 ρ (i :: is) = restP ρ2 ρ is := by
          show (restP ρ2 ρ is).set i (nth ρ i) = _
          rw [← en, ee, ← e4]; exact set_nth
        rw [e3]; exact ⟨q1, q2⟩
      | some v =>
        have h2 := h1.slotOut f1 e
        have f2 : Fits s0 ((wipeQ ρ is).set i .emp) (wipe σ is) := f1.re e fun z => by cases z
        have h3 : Hold T H (its ((wipeQ ρ is).set i .emp) (wipe σ is) ++ (((nth ρ i, v) :: S) ++ l)) := by
          rw [en] at h2
          exact h2.perm (permc fun _ x => by simp only [List.count_append, List.count_cons]; omega)
        refine ⟨(nth ρ i, v) :: S, fs, h3.reSlot f2.len (nth_set_same hi), fun ρ2 H2 l2 g2 he k2 => ?_⟩
        have len2 := g2.len
        have l3 : (wipe σ (i :: is)).length = (wipe σ is).length := by show ((wipe σ is).set i none).length = _; simp
        have hi2 : i < ρ2.length := by rw [← len2, l3, len1]; exact hi
        have em := he i List.mem_cons_self
        -- the slots as they were ahead of i's wiping
        have k3 : Hold T H2 (its ρ2 (wipe σ is) ++ (((nth ρ i, v) :: S) ++ l2)) := by
          have := k2.reSlot (i := i) (s := some v) len2 em
          have e5 : (wipe σ (i :: is)).set i (some v) = wipe σ is := by
            show ((wipe σ is).set i none).set i (some v) = _
            rw [List.set_set]; exact set_self e
          rw [e5] at this; exact this
        have g3 : Fits s0 ρ2 (wipe σ is) := by
          refine ⟨by rw [← l3]; exact len2, fun j hj => ?_, fun j hj => ?_⟩
          · by_cases c : i = j
            · subst c; rw [em] at hj; cases hj
            · have := g2.has j hj
              have e6 : (wipe σ (i :: is))[j]? = (wipe σ is)[j]? := by show ((wipe σ is).set i none)[j]? = _; rw [List.getElem?_set_ne c]
              rw [e6] at this; exact this
          · by_cases c : i = j
            · subst c; rw [em] at hj; cases hj
            · have := g2.io j hj
              have e6 : (wipe σ (i :: is))[j]? = (wipe σ is)[j]? := by show ((wipe σ is).set i none)[j]? = _; rw [List.getElem?_set_ne c]
              rw [e6] at this; exact this
        obtain ⟨q1, q2⟩ := q ρ2 H2 ((nth ρ i, v) :: l2) g3 (fun j hj => he j (List.mem_cons_of_mem _ hj)) (k3.perm (permc fun _ x => by simp only [List.count_append, List.count_cons]; omega))
        have hr : i < (restP ρ2 ρ is).length := by rw [restP_len]; exact hi2
        have q3 : Hold T H2 ((nth ρ i, v) :: (its (restP ρ2 ρ is) σ ++ l2)) := q2.perm (permc fun _ x => by simp only [List.count_append, List.count_cons]; omega)
        have q4 := q3.slot q1 hr
        rw [set_self es] at q4
        refine ⟨?_, q4⟩
        refine ⟨by show σ.length = ((restP ρ2 ρ is).set i _).length; rw [List.length_set]; exact q1.len, fun j hj => ?_, fun j hj => ?_⟩
        · by_cases c : i = j
          · subst c; exact ⟨v, es⟩
          · have hj : (nth ((restP ρ2 ρ is).set i (nth ρ i)) j).isEmp = false := hj
            rw [nth_set_ne c] at hj; exact q1.has j hj
        · have hj : (nth ((restP ρ2 ρ is).set i (nth ρ i)) j).isIo = true := hj
          by_cases c : i = j
          · subst c
            rw [nth_set_same hr] at hj
            exact f.io i hj
          · rw [nth_set_ne c] at hj; exact q1.io j hj
end

/-! ### comprehensions -/
def lcl (t : Tg) (tt : M Bool) (fe : M Hd) (own : List Nat) : List PV → List PV → M (List PV)
  | [], acc, ρ => .ok acc ρ
  | x :: xs, acc, ρ => match t x ρ with
    | some ρ1 => (match tt ρ1 with
      | .ok true ρ2 => (match fe ρ2 with
        | .ok h ρ3 => (match take ρ3 h with
          | some (a, ρ4) => if acc.length < lim then lcl t tt fe own xs (acc ++ [a]) (wipeQ ρ4 own) else .stuck
          | none => .stuck)
        | _ => .stuck)
      | .ok false ρ2 => lcl t tt fe own xs acc (wipeQ ρ2 own)
      | _ => .stuck)
    | none => .stuck
def eLc (fi : M (List PV)) (t : Tg) (tt : M Bool) (fe : M Hd) (own : List Nat) : M Hd := fun ρ => (fi ρ).bind fun xs ρ1 => match lcl t tt fe own xs [] (wipeQ ρ1 own) with
  | .ok ys ρ2 => .ok (.tm (.lst .ow ys)) (restP ρ2 ρ1 own)
  | _ => .stuck
abbrev G.in0 (g : G) : G := { g with W := fun _ _ _ _ => False }
theorem wipe_idem (σ : L2.St) : ∀ is : List Nat, wipe (wipe σ is) is = wipe σ is
  | [] => rfl
  | i :: is => by
    show (wipe ((wipe σ is).set i none) is).set i none = (wipe σ is).set i none
    rw [← wipe_set, List.set_set, wipe_idem σ is]
section
variable {g : G} {X : Cx} {elt tg iter : Expr} {ifs : List Expr} {fe : M Hd} {fx : M (List PV)} {tt : M Bool} {t : Tg} {pos : Pos} {scope : Scope} {own : List (Str × Nat)} {is : List Nat}
theorem lc_read {σ : L2.St} {H : Hp} {Q : VK} {ρ : List PV} {τ : Its} (nd : is.Nodup) (ft : Fits g.s0 ρ σ) (h : Hold g.T H (its ρ σ ++ τ)) (hP : Post g σ τ (PE1 g σ τ Q) (eLc fx t tt fe is ρ)) :
    tLc (trI g fx) (trG g.in0 t is) (trT g.in0 tt) (trE g.in0 fe) is σ H Q := by
  refine ⟨ρ, τ, ft, h, ?_⟩
  unfold eLc at hP
  cases e : fx ρ with
  | stuck => rw [e] at hP; exact hP
  | exc c xs ρ1 => rw [e] at hP; exact hP
  | ok xs ρ1 =>
    rw [e] at hP
    intro J H' τx K Y w hG hY own f1 k1 D hD
    obtain ⟨S, f2, k2, put⟩ := saveOut nd f1 (mid k1)
    refine lc_it w (fun i H => ∃ ρ acc, Fits g.s0 ρ (wipe σ is) ∧ (∀ j ∈ is, nth ρ j = .emp) ∧ Hold g.T H ((.lst .ow acc, .ref D) :: (its ρ (wipe σ is) ++ (S ++ (τx ++ τ)))) ∧
      (match lcl t tt fe is (xs.drop i) acc ρ with
        | .ok ys ρ2 => PE1 g σ τ Q (.tm (.lst .ow ys)) (restP ρ2 ρ1 is)
        | _ => False)) ?_ (fun i H _ ⟨ρ, acc, _, _, k, _⟩ => hG H ((.lst .ow acc, .ref D) :: (its ρ (wipe σ is) ++ (S ++ τ))) (k.perm (permc fun _ x => by simp only [List.count_append, List.count_cons]; omega))) (fun i x H2 H3 hi ⟨ρ, acc, f3, em, k3, hP3⟩ y => ?_) fun H2 ⟨ρ, acc, f3, em, k3, hP3⟩ => ?_
    · refine ⟨wipeQ ρ1 is, [], f2, fun j hj => wipeQ_in hj, Hold.new_own k2 hD rfl fun F s o => ⟨D, [], rfl, upd_same, .nil⟩, ?_⟩
      rw [List.drop_zero]
      have hP : Post g σ τ (PE1 g σ τ Q) (match lcl t tt fe is xs [] (wipeQ ρ1 is) with
        | .ok ys ρ2 => (.ok (.tm (.lst .ow ys)) (restP ρ2 ρ1 is) : R Hd)
        | _ => .stuck) := hP
      cases e2 : lcl t tt fe is xs [] (wipeQ ρ1 is) with
      | ok ys ρ2 => rw [e2] at hP; exact hP
      | exc _ _ _ => rw [e2] at hP; exact hP
      | stuck => rw [e2] at hP; exact hP
    · have hd : xs.drop i = xs[i] :: xs.drop (i + 1) := List.drop_eq_getElem_cons hi
      rw [hd] at hP3
      simp only [lcl] at hP3
      have k4 := hY i H2 x H3 ((.lst .ow acc, .ref D) :: (its ρ (wipe σ is) ++ (S ++ τ))) xs[i] (List.getElem?_eq_getElem hi) (k3.perm (permc fun _ x => by simp only [List.count_append, List.count_cons]; omega)) y
      cases e2 : t xs[i] ρ with
      | none => rw [e2] at hP3; exact hP3.elim
      | some ρ2 =>
        rw [e2] at hP3
        simp only at hP3
        -- what a turn leaves aside
        have down : ∀ {ρ4 : List PV} {σ' : L2.St} {H : Hp} {l : Its}, wipe σ' is = wipe σ is → Fits g.s0 ρ4 σ' → Hold g.T H (its ρ4 σ' ++ l) → Fits g.s0 (wipeQ ρ4 is) (wipe σ is) ∧ Hold g.T H (its (wipeQ ρ4 is) (wipe σ is) ++ l) := fun {ρ4 σ' H l} w' f' k' => by
          obtain ⟨S', q1, q2, _⟩ := saveOut nd f' k'
          rw [w'] at q1 q2
          exact ⟨q1, q2.sub (List.Sublist.append_left (List.sublist_append_right ..) _)⟩
        refine ⟨xs[i], ρ, (.lst .ow acc, .ref D) :: (S ++ (τx ++ τ)), f3, own _ (List.getElem_mem hi), k4.perm (permc fun _ x => by simp only [List.count_append, List.count_cons]; omega), ρ2, e2, fun σ' H4 w' f4 k5 => ⟨by rw [w', wipe_idem], ?_⟩⟩
        rw [wipe_idem] at w'
        refine ⟨ρ2, _, f4, k5, ?_⟩
        cases e3 : tt ρ2 with
        | stuck => rw [e3] at hP3; exact hP3
        | exc _ _ _ => rw [e3] at hP3; exact hP3.elim
        | ok b ρ3 =>
          rw [e3] at hP3
          intro H5 f5 k6
          cases b with
          | false =>
            simp only [Bool.false_eq_true, if_false] at hP3 ⊢
            obtain ⟨f6, k7⟩ := down w' f5 k6
            exact ⟨wipeQ ρ3 is, acc, f6, fun j hj => wipeQ_in hj, k7.perm (permc fun _ x => by simp only [List.count_append, List.count_cons]; omega), hP3⟩
          | true =>
            simp only [if_true] at hP3 ⊢
            refine ⟨ρ3, _, f5, k6, ?_⟩
            cases e4 : fe ρ3 with
            | stuck => rw [e4] at hP3; exact hP3
            | exc _ _ _ => rw [e4] at hP3; exact hP3.elim
            | ok h1 ρ4 =>
              rw [e4] at hP3
              simp only at hP3
              intro v H6 f6 s6 k7
              cases e5 : take ρ4 h1 with
              | none => rw [e5] at hP3; exact hP3.elim
              | some p =>
                obtain ⟨a, ρ5⟩ := p
                rw [e5] at hP3
                simp only at hP3
                obtain ⟨f7, o7, k8⟩ := take_ok f6 s6 k7 e5
                by_cases hz : acc.length < lim
                · rw [if_pos hz] at hP3
                  have k9 : Hold g.T H6 ((.lst .ow acc, .ref D) :: ((a, v) :: (its ρ5 σ' ++ (S ++ (τx ++ τ))))) := k8.perm (permc fun _ x => by simp only [List.count_append, List.count_cons]; omega)
                  obtain ⟨p, vs, ev, hp, hl, _⟩ := k9.g_lst List.mem_cons_self
                  cases ev
                  refine ⟨vs, hp, by rw [hl]; exact lim_lt hz, ?_⟩
                  have k10 := Hold.write k9 (o := .lst (vs ++ [v])) rfl (b := .lst .ow (acc ++ [a])) rfl fun F s ra o => ⟨D, vs ++ [v], rfl, upd_same, by
                    obtain ⟨p', vs', ev, hp', r⟩ := ra
                    cases ev
                    rw [hp] at hp'; cases hp'
                    exact r.append (.cons ((Own.fz o7).mp (o (a, v) List.mem_cons_self)) o7 .nil)⟩
                  have k11 : Hold g.T (upd H6 D (.lst (vs ++ [v]))) (its ρ5 σ' ++ ((.lst .ow (acc ++ [a]), .ref D) :: (S ++ (τx ++ τ)))) := by
                    have : Hold g.T (upd H6 D (.lst (vs ++ [v]))) ((a, v) :: (its ρ5 σ' ++ ((.lst .ow (acc ++ [a]), .ref D) :: (S ++ (τx ++ τ))))) := k10.perm (permc fun _ x => by simp only [List.count_append, List.count_cons]; omega)
                    exact this.tail
                  obtain ⟨f8, k12⟩ := down w' f7 k11
                  exact ⟨wipeQ ρ5 is, acc ++ [a], f8, fun j hj => wipeQ_in hj, k12.perm (permc fun _ x => by simp only [List.count_append, List.count_cons]; omega), hP3⟩
                · rw [if_neg hz] at hP3; exact hP3.elim
    · rw [List.drop_length] at hP3
      simp only [lcl] at hP3
      have k4 : Hold g.T H2 (its ρ (wipe σ is) ++ (S ++ ((.lst .ow acc, .ref D) :: (τx ++ τ)))) := k3.perm (permc fun _ x => by simp only [List.count_append, List.count_cons]; omega)
      obtain ⟨f4, k5⟩ := put ρ H2 _ f3 em k4
      refine hP3 (.ref D) H2 f4 slot_tm ?_
      have : Hold g.T H2 (τx ++ ((.lst .ow acc, .ref D) :: (its (restP ρ ρ1 is) σ ++ τ))) := k5.perm (permc fun _ x => by simp only [List.count_append, List.count_cons]; omega)
      exact this.right
abbrev PTsV (g : G) (X : Cx) (ifs : List Expr) (tt : M Bool) : Prop := PTs X ifs (trT g tt)
theorem ptsv_nil : PTsV g X [] tYesV := ⟨fun pins s σ H Q I ⟨ρ, τ, f, h, hP⟩ => pts_nil.run pins s σ H Q I (hP H f h)⟩
theorem ptsv_one {c : Expr} (h : TV g X c tt) : PTsV g X [c] tt := pts_one h
theorem ev_lc (hc : X.calm = true) (hN : X.N.Nodup) (his : own.map (·.2) = is) (nd : is.Nodup) (hi : IV g X tg iter fx) (ok : BlkOk X.N X.env.scope scope own)
    (hg : ∀ (s : Shared) (H : Hp) (C : Addr) (cl : List (Str × Addr)) (fp : List Addr), GV g.in0 (X.blk s H scope (compEnvC scope cl C X.env) fp) tg t is) (ht : ∀ (s : Shared) (H : Hp) (C : Addr) (cl : List (Str × Addr)) (fp : List Addr), PTsV g.in0 (X.blk s H scope (compEnvC scope cl C X.env) fp) ifs tt)
    (he : ∀ (s : Shared) (H : Hp) (C : Addr) (cl : List (Str × Addr)) (fp : List Addr), EV g.in0 (X.blk s H scope (compEnvC scope cl C X.env) fp) elt fe) (hs : ∀ x, foldedSetIterable iter X.env x = pure x := by intro _; rfl) :
    EV g X (.ListComp elt [⟨tg, iter, ifs, 0⟩] scope pos) (eLc fx t tt fe is) :=
  ev_of (pe_lc hc hN hi ok hg ht he hs) fun σ H Q ρ τ ft h hP => by rw [his]; exact lc_read nd ft h hP
theorem sv_setLc {i : Nat} {y : Str} {py spos : Pos} (hc : X.calm = true) (hN : X.N.Nodup) (hy : X.N[i]? = some y) (hyl : X.env.scope.names.lookup y = some .local)
    (hsw : swapsWith (.ListComp elt [⟨tg, iter, ifs, 0⟩] scope pos) (some (.Name y py)) spos.line X.env = pure true) (his : own.map (·.2) = is) (nd : is.Nodup) (hi : IV g X tg iter fx) (ok : BlkOk X.N X.env.scope scope own)
    (hg : ∀ (s : Shared) (H : Hp) (C : Addr) (cl : List (Str × Addr)) (fp : List Addr), GV g.in0 (X.blk s H scope (compEnvC scope cl C X.env) fp) tg t is) (ht : ∀ (s : Shared) (H : Hp) (C : Addr) (cl : List (Str × Addr)) (fp : List Addr), PTsV g.in0 (X.blk s H scope (compEnvC scope cl C X.env) fp) ifs tt)
    (he : ∀ (s : Shared) (H : Hp) (C : Addr) (cl : List (Str × Addr)) (fp : List Addr), EV g.in0 (X.blk s H scope (compEnvC scope cl C X.env) fp) elt fe) (hs : ∀ x, foldedSetIterable iter X.env x = pure x := by intro _; rfl) :
    SV g X (.Assign [.Name y py] (.ListComp elt [⟨tg, iter, ifs, 0⟩] scope pos) spos) (sSet i (eLc fx t tt fe is)) :=
  sv_of (ps_setLc hc hN hy hyl hsw hi ok hg ht he hs) fun D σ H ρ τ ft h hP => by
    have hP2 : PS1 g τ D ((eLc fx t tt fe is ρ).bind fun h ρ1 => match keep h ρ1 with
      | some (a, ρ2) => ofL (setAt i a ρ2)
      | none => .stuck) := hP
    rw [his]
    refine (show tLc (trI g fx) (trG g.in0 t is) (trT g.in0 tt) (trE g.in0 fe) is σ H (fun x H1 => gName i x σ H1 D.nx) from ?_)
    refine lc_read nd ft h (?_ : Post g σ τ (PE1 g σ τ fun x H1 => gName i x σ H1 D.nx) (eLc fx t tt fe is ρ))
    cases e : eLc fx t tt fe is ρ with
    | stuck => rw [e] at hP2; exact hP2
    | exc c xs ρ1 => rw [e] at hP2; exact fun d vs H' => hP2 d vs σ H'
    | ok h1 ρ1 =>
      rw [e] at hP2
      intro v H1 f1 s1 k1
      simp only [R.bind_ok] at hP2
      cases e1 : keep h1 ρ1 with
      | none => rw [e1] at hP2; exact hP2.elim
      | some p =>
        obtain ⟨a, ρ2⟩ := p
        rw [e1] at hP2
        simp only at hP2
        obtain ⟨f2, k2⟩ := keep_ok f1 s1 k1 e1
        cases e2 : setAt i a ρ2 with
        | none => rw [e2] at hP2; exact hP2.elim
        | some ρ3 =>
          rw [e2] at hP2
          obtain ⟨f3, k3⟩ := setAt_ok f2 k2 e2
          exact hP2 _ H1 f3 k3
end
end VL

set_option Elab.async false
set_option linter.all false
set_option maxRecDepth 100000
/-! A def is worth a function of its arguments' values. -/
namespace VL
open PySem PySem.Spec PyProof.Rows L2

def PV.toIo (a : PV) : PV := PV.reFl .io a
/-- what is handed back of the arguments -/
def exit1 (a b : PV) : PV := if a.own = true then (if b.isIo = true then b.setFl .ow else .emp) else a
def exitF : List PV → List PV → List PV
  | [], _ => []
  | a :: as, ρ => exit1 a (ρ.headD .emp) :: exitF as ρ.tail
def runF (np n : Nat) (f : M Fw) (args : List PV) : R PV :=
  if args.length = np then
    (match f (args.map PV.toIo ++ List.replicate (n - np) .emp) with
    | .ok (.rt a) ρ => .ok a (exitF args ρ)
    | .ok .nx ρ => .ok .non (exitF args ρ)
    | .ok _ _ => .stuck
    | .exc c xs ρ => .exc c xs (exitF args ρ)
    | .stuck => .stuck)
  else .stuck
theorem exitF_len : ∀ (as ρ : List PV), (exitF as ρ).length = as.length
  | [], _ => rfl
  | a :: as, ρ => by simp [exitF, exitF_len as ρ.tail]
section
variable {T : Tb} {H : Hp}
/-- the frozen ones among the arguments -/
def fzs : List PV → List V → Its
  | a :: as, v :: vs => if a.own = true then fzs as vs else (a, v) :: fzs as vs
  | _, _ => []
theorem entry : ∀ {args : List PV} {vs : List V} {l : Its}, vs.length = args.length → Hold T H (args.zip vs ++ l) → Hold T H ((args.map PV.toIo).zip vs ++ (fzs args vs ++ l))
  | [], vs, l, hl, h => by simpa [fzs] using h
  | a :: as, [], l, hl, h => by simp at hl
  | a :: as, v :: vs, l, hl, h => by
    rw [List.zip_cons_cons, List.cons_append] at h
    rw [List.map_cons, List.zip_cons_cons, List.cons_append]
    have hl : vs.length = as.length := by simpa using hl
    by_cases ho : a.own = true
    · have h1 : Hold T H (as.zip vs ++ ((a, v) :: l)) := h.perm (permc fun _ x => by simp only [List.count_append, List.count_cons]; omega)
      have h2 := entry hl h1
      have h3 : Hold T H ((a, v) :: ((as.map PV.toIo).zip vs ++ (fzs as vs ++ l))) := h2.perm (permc fun _ x => by simp only [List.count_append, List.count_cons]; omega)
      have e : a.toIo = a.setFl .io := by unfold PV.toIo PV.reFl; rw [if_pos ho]
      rw [e]
      simp only [fzs, ho, if_true]
      exact h3.relabel ho (by intro z; cases z)
    · have ho' : a.own = false := by simpa using ho
      have e : a.toIo = a := by unfold PV.toIo PV.reFl; rw [if_neg ho]
      rw [e]
      have h1 : Hold T H (as.zip vs ++ ((a, v) :: l)) := h.perm (permc fun _ x => by simp only [List.count_append, List.count_cons]; omega)
      have h2 := entry hl h1
      have h3 := h2.dup (a := a) (v := v) (by simp) ho'
      simp only [fzs, ho, Bool.false_eq_true, if_false]
      exact h3.perm (permc fun _ x => by simp only [List.count_append, List.count_cons]; omega)
theorem exit_hold : ∀ {args : List PV} {vs : List V} {ρ : List PV} {σ : L2.St} {l : Its}, vs.length = args.length → σ.length = ρ.length → (∀ i, (nth ρ i).isIo = true → i < args.length → σ[i]? = (vs[i]?).map some) → Hold T H (its ρ σ ++ (fzs args vs ++ l)) → Hold T H ((exitF args ρ).zip vs ++ l)
  | [], vs, ρ, σ, l, hl, _, _, h => by
    have h : Hold T H (its ρ σ ++ ([] ++ l)) := by simpa [fzs] using h
    simpa [exitF] using h.right
  | a :: as, [], ρ, σ, l, hl, _, _, h => by simp at hl
  | a :: as, v :: vs, [], σ, l, hl, hs, _, h => by
    have hl : vs.length = as.length := by simpa using hl
    have e0 : σ = [] := List.length_eq_zero_iff.mp hs
    subst e0
    have rec_ : ∀ {l : Its}, Hold T H (fzs as vs ++ l) → Hold T H ((exitF as []).zip vs ++ l) := fun h => exit_hold (ρ := []) (σ := []) hl rfl (fun i h1 _ => by simp [nth, PV.isIo, PV.fl] at h1) (by simpa [its] using h)
    have h : Hold T H (fzs (a :: as) (v :: vs) ++ l) := by simpa [its] using h
    simp only [exitF, List.headD_nil, List.tail_nil, List.zip_cons_cons, List.cons_append]
    unfold exit1
    by_cases ho : a.own = true
    · simp only [fzs, ho, if_true] at h ⊢
      rw [if_neg (by simp [PV.isIo, PV.fl])]
      exact (rec_ h).emp
    · simp only [fzs, ho, Bool.false_eq_true, if_false] at h ⊢
      have h1 : Hold T H (fzs as vs ++ ((a, v) :: l)) := h.perm (permc fun _ x => by simp only [List.count_append, List.count_cons]; omega)
      exact (rec_ h1).perm (permc fun _ x => by simp only [List.count_append, List.count_cons]; omega)
  | a :: as, v :: vs, b :: ρ, [], l, hl, hs, _, h => by simp at hs
  | a :: as, v :: vs, b :: ρ, s :: σ, l, hl, hs, io, h => by
    have hl : vs.length = as.length := by simpa using hl
    have hs : σ.length = ρ.length := by simpa using hs
    have io' : ∀ i, (nth ρ i).isIo = true → i < as.length → σ[i]? = (vs[i]?).map some := fun i h1 h2 => by
      have := io (i + 1) (by simpa using h1) (by simpa using h2)
      simpa using this
    simp only [its, List.cons_append] at h
    simp only [exitF, List.headD_cons, List.tail_cons, List.zip_cons_cons, List.cons_append]
    unfold exit1
    by_cases ho : a.own = true
    · simp only [fzs, ho, if_true] at h ⊢
      have h1 : Hold T H (its ρ σ ++ (fzs as vs ++ ((b, s.getD .non) :: l))) := h.perm (permc fun _ x => by simp only [List.count_append, List.count_cons]; omega)
      have h2 := exit_hold hl hs io' h1
      by_cases hb : b.isIo = true
      · rw [if_pos hb]
        have e := io 0 (by simpa using hb) (by simp)
        simp at e
        subst e
        have h3 : Hold T H ((b, v) :: ((exitF as ρ).zip vs ++ l)) := h2.perm (permc fun _ x => by simp only [Option.getD_some, List.count_append, List.count_cons]; omega)
        exact h3.relabel (io_own hb) (by intro z; cases z)
      · rw [if_neg hb]
        have h3 : Hold T H ((exitF as ρ).zip vs ++ l) := by
          have : Hold T H ((b, s.getD .non) :: ((exitF as ρ).zip vs ++ l)) := h2.perm (permc fun _ x => by simp only [List.count_append, List.count_cons]; omega)
          exact this.tail
        exact h3.emp
    · simp only [fzs, ho, Bool.false_eq_true, if_false] at h ⊢
      have h1 : Hold T H (its ρ σ ++ (fzs as vs ++ ((a, v) :: l))) := by
        have : Hold T H ((b, s.getD .non) :: (its ρ σ ++ (fzs as vs ++ ((a, v) :: l)))) := h.perm (permc fun _ x => by simp only [List.count_append, List.count_cons]; omega)
        exact this.tail
      have h2 := exit_hold hl hs io' h1
      exact h2.perm (permc fun _ x => by simp only [List.count_append, List.count_cons]; omega)
theorem nth_app1 : ∀ {as bs : List PV} {i : Nat}, i < as.length → nth (as ++ bs) i = nth as i
  | _ :: _, _, 0, _ => rfl
  | _ :: as, bs, i + 1, h => by simp only [List.cons_append, nth_succ]; exact nth_app1 (by simpa using h)
theorem its_app : ∀ {as bs : List PV} {vs : List V} {m : Nat}, vs.length = as.length → its (as ++ List.replicate m .emp) (vs.map some ++ List.replicate m none) = as.zip vs ++ List.replicate m (.emp, .non)
  | [], _, [], m, _ => by
    simp only [List.nil_append, List.map_nil, List.zip_nil_left]
    induction m with
    | zero => rfl
    | succ m ih => simp only [List.replicate_succ, its, ih, Option.getD_none]
  | [], _, _ :: _, _, h => by simp at h
  | _ :: _, _, [], _, h => by simp at h
  | a :: as, bs, v :: vs, m, h => by
    simp only [List.cons_append, List.map_cons, its, Option.getD_some, List.zip_cons_cons]
    rw [its_app (bs := bs) (by simpa using h)]
theorem Hold.emps {l : Its} (h : Hold T H l) : ∀ m : Nat, Hold T H (l ++ List.replicate m (.emp, .non))
  | 0 => by simpa using h
  | m + 1 => by
    have := (Hold.emps h m).emp (v := .non)
    exact this.perm (permc fun _ x => by simp only [List.replicate_succ, List.count_append, List.count_cons]; omega)
end
/-- the body's word is the def's -/
theorem body_sp {T : Tb} {E : XK} {Q : VK} {N ps : List Str} {f : M Fw} {vs : List V} {H : Hp} (hn : ps.length ≤ N.length) (h : spF T (runF ps.length N.length f) vs H Q E) :
    vs.length = ps.length ∧ trS ⟨T, L2.start N vs, fun cls d _ H => E cls d H⟩ f { nx := fun _ H' => Q .non H', rt := Q } (L2.start N vs) H := by
  obtain ⟨args, τ, hl, hh, fin⟩ := h
  unfold runF at fin
  split at fin
  case isFalse => exact fin.elim
  rename_i ha
  refine ⟨by rw [hl, ha], ?_⟩
  have hs : L2.start N vs = vs.map some ++ List.replicate (N.length - ps.length) none := by unfold L2.start; rw [hl, ha]
  have hi : its (args.map PV.toIo ++ List.replicate (N.length - ps.length) .emp) (L2.start N vs) = (args.map PV.toIo).zip vs ++ List.replicate (N.length - ps.length) (.emp, .non) := by
    rw [hs]; exact its_app (bs := []) (by rw [hl, List.length_map])
  have k1 := entry hl hh
  have fit : Fits (L2.start N vs) (args.map PV.toIo ++ List.replicate (N.length - ps.length) .emp) (L2.start N vs) := by
    refine ⟨by rw [hs]; simp [hl], fun i hi => ?_, fun _ _ => rfl⟩
    by_cases hlt : i < args.length
    · refine ⟨vs[i]'(by omega), ?_⟩
      rw [hs, List.getElem?_append_left (by simp; omega)]
      simp
    · exfalso
      have : nth (args.map PV.toIo ++ List.replicate (N.length - ps.length) PV.emp) i = .emp := by
        rw [nth_get, List.getElem?_append_right (by simp; omega)]
        rw [List.getElem?_replicate]
        split <;> rfl
      rw [this] at hi; cases hi
  refine ⟨_, fzs args vs ++ τ, fit, ?_, ?_⟩
  · rw [hi]
    have := Hold.emps k1 (N.length - ps.length)
    exact this.perm (permc fun _ x => by simp only [List.count_append]; omega)
  -- the end
  have out : ∀ {ρ : List PV} {σ : L2.St} {H' : Hp} {l : Its}, Fits (L2.start N vs) ρ σ → Hold T H' (l ++ (its ρ σ ++ (fzs args vs ++ τ))) → Hold T H' (l ++ ((exitF args ρ).zip vs ++ τ)) := fun {ρ σ H' l} f k => by
    have k2 : Hold T H' (its ρ σ ++ (fzs args vs ++ (l ++ τ))) := k.perm (permc fun _ x => by simp only [List.count_append]; omega)
    have k3 := exit_hold hl f.len (fun i h1 h2 => by
      rw [f.io i h1, hs, List.getElem?_append_left (by simp; omega), List.getElem?_map]) k2
    exact k3.perm (permc fun _ x => by simp only [List.count_append]; omega)
  cases e : f (args.map PV.toIo ++ List.replicate (N.length - ps.length) .emp) with
  | ok a ρ =>
    rw [e] at fin
    cases a with
    | nx => exact fun σ H' f' k => fin .non H' (out (l := []) f' k).non
    | rt a => exact fun v σ H' f' k => fin v H' (out (l := [(a, v)]) f' k)
    | bk => exact fin.elim
    | ct => exact fin.elim
  | exc c xs ρ =>
    rw [e] at fin
    exact fun d ws σ H' f' hx hl2 k => fin d ws H' hx hl2 (out f' k)
  | stuck => rw [e] at fin; exact fin.elim
section
variable {P : Program} {w : World} {mg : Str → Option Value} {base : Heap} {T : Tb} {x qual m : Str} {C : Addr} {st : Stmt} {N ps : List Str} {k : Nat} {f : M Fw}
/-- what a body's derivation may use -/
abbrev BodyV (P : Program) (w : World) (mg : Str → Option Value) (base : Heap) (T : Tb) (k : Nat) (qual : Str) (st : Stmt) (N : List Str) (f : M Fw) : Prop :=
  ∀ (fa : Addr) (cdv : Value) (A : Around) (outer : List Env) (s : Shared) (H : Hp) (vs : List V) (E : XK), Room k (A.deeper (envOfC qual (defScope st) s.heap.objs.size fa cdv)) →
    BV ⟨T, L2.start N vs, fun cls d _ H => E cls d H⟩ (cxOf (L2.CX P w) P w T.K mg base N qual (defScope st) fa cdv A outer s H E) (defBody st) f
theorem okV (F : My.Df T.K mg x st ps) (S : FnScope N ps (defScope st)) (hn : ps.length ≤ N.length) (body : BodyV P w mg base T k x st N f) : My.DnX P w T.K mg base (k + 1) x (spF T (runF ps.length N.length f)) :=
  F.okX S (fun vs H Q E h => (body_sp hn h).1) fun fa cdv A outer s H vs Q E hr h => ⟨_, body fa cdv A outer s H vs E hr, (body_sp hn h).2⟩
theorem okVM (F : My.DfM T.K C m qual st ps) (S : FnScope N ps (defScope st)) (hn : ps.length ≤ N.length) (body : BodyV P w mg base T k qual st N f) : My.DnMX P w T.K mg base (k + 1) C m (spF T (runF ps.length N.length f)) :=
  F.okX S (fun vs H Q E h => (body_sp hn h).1) fun fa cdv A outer s H vs Q E hr h => ⟨_, body fa cdv A outer s H vs E hr, (body_sp hn h).2⟩
theorem okVI (F : My.DfI T.K mg x C qual st ps) (S : FnScope N ps (defScope st)) (hn : ps.length ≤ N.length) (body : BodyV P w mg base T k qual st N f) : My.DnIX P w T.K mg base (k + 1) x C (spF T (runF ps.length N.length f)) :=
  F.okX S (fun vs H Q E h => (body_sp hn h).1) fun fa cdv A outer s H vs Q E hr h => ⟨_, body fa cdv A outer s H vs E hr, (body_sp hn h).2⟩
theorem okVO (F : My.DfO T.K C qual st ps) (S : FnScope N ps (defScope st)) (hn : ps.length ≤ N.length) (body : BodyV P w mg base T k qual st N f) : My.DnO (L2.CX P w) P w T.K mg base (k + 1) C (spF T (runF ps.length N.length f)) :=
  F.okX S (fun vs H Q E h => (body_sp hn h).1) fun fa cdv A outer s H vs Q E hr h => ⟨_, body fa cdv A outer s H vs E hr, (body_sp hn h).2⟩
theorem okVP (F : My.DfP T.K C m qual st ps) (S : FnScope N ps (defScope st)) (hn : ps.length ≤ N.length) (body : BodyV P w mg base T k qual st N f) : DnPX P w T.K mg base (k + 1) C m (spF T (runF ps.length N.length f)) := by
  obtain ⟨p, fa, fd, F, b, m⟩ := F.ex
  exact ⟨p, fa, fd, ps, F.okX S (fun vs H Q E h => (body_sp hn h).1) fun cdv A outer s H vs Q E hr h => ⟨_, body fa cdv A outer s H vs E hr, (body_sp hn h).2⟩, m, b⟩
end
end VL

set_option Elab.async false
set_option linter.all false
set_option maxRecDepth 100000
/-! Stores, methods of built-in types, raise. -/
namespace VL
open PySem PySem.Spec PyProof.Rows L2

section
variable {g : G} {X : Cx} {e o i v : Expr} {es : List Expr} {fo fi fv : M Hd} {fs : M (List Hd)} {pos tpos apos cpos : Pos}

/-! ### x[i] = e, x.f = e -/
theorem sv_sub (hv' : EV g X v fv) (ho : EV g X o fo) (hi : EV g X i fi)
    (ha : ∀ v, assign (.Subscript o i tpos) X.env v = (do
      let ov ← holding [v] (eval o X.env)
      let iv ← holding [v, ov] (eval i X.env)
      standAt tpos
      holding [v, ov, iv] (setItem ov iv v)
      release [v, ov, iv] []) := by intro _; rfl)
    (hs : swapsWithSole [.Subscript o i tpos] v pos.line X.env = pure false := by rfl) (hw : swappedStores [.Subscript o i tpos] v X.env = pure none := by rfl)
    (h1 : (assignEach [.Subscript o i tpos] X.env).map (·.2) = [assign (.Subscript o i tpos) X.env] := by rfl) : SV g X (.Assign [.Subscript o i tpos] v pos) (sSub fo fi fv) :=
  sv_of (ps_asg hv' (pg_sub ho hi set_list ha) hs hw h1) fun D σ H ρ τ ft h hP => stepES ft h hP fun h0 ρ1 hP1 v0 H1 f1 s1 k1 => by
    have st : ∀ {α : Type} {fa : M Hd} {k : Hd → M Fw} {ρ : List PV} {ε : Its} {H : Hp} {Q' : VK}, Fits g.s0 ρ σ → Hold g.T H (its ρ σ ++ (ε ++ τ)) → PS1 g τ D ((fa ρ).bind k) → (∀ h ρ1, PS1 g τ D (k h ρ1) → ∀ v H1, Fits g.s0 ρ1 σ → slotAt σ h v → Hold g.T H1 (hit h v ++ (its ρ1 σ ++ (ε ++ τ))) → Q' v H1) → trE g fa σ H Q' := by
      intro α fa k ρ ε H Q' ft h hP hk
      refine ⟨ρ, ε ++ τ, ft, h, ?_⟩
      cases e : fa ρ with
      | ok h ρ1 => rw [e] at hP; exact hk h ρ1 hP
      | exc c xs ρ1 => rw [e] at hP; exact fun d vs H' fx hx hl hh => hP d vs σ H' fx hx hl (hh.sub (List.Sublist.append_left (List.Sublist.append_left (List.sublist_append_right ..) _) _))
      | stuck => rw [e] at hP; exact hP
    refine st (α := Unit) (ε := hit h0 v0) f1 (mid k1) hP1 fun h1 ρ2 hP2 o1 H2 f2 s2 k2 => ?_
    refine st (α := Unit) (ε := hit h1 o1 ++ hit h0 v0) f2 (k2.perm (permc fun _ x => by simp only [List.count_append]; omega)) hP2 fun h2 ρ3 hP3 i1 H3 f3 s3 k3 => ?_
    cases h1 with
    | tm a => exact hP3.elim
    | sl j =>
      cases e0 : take ρ3 h0 with
      | none => simp only [e0] at hP3; exact hP3.elim
      | some p =>
        obtain ⟨a, ρ4⟩ := p
        simp only [e0] at hP3
        have k4 : Hold g.T H3 (hit h0 v0 ++ (its ρ3 σ ++ (hit h2 i1 ++ τ))) := k3.perm (permc fun _ x => by simp only [hit, List.count_append, List.count_nil]; omega)
        obtain ⟨f4, o4, k5⟩ := take_ok f3 s1 k4 e0
        have mi : (hv ρ4 h2, i1) ∈ (a, v0) :: (its ρ4 σ ++ (hit h2 i1 ++ τ)) := mem_of f4 s3 (fun x hx => by simp [hx]) fun x hx => by simp [hx]
        have cj := s2 j rfl
        cases e1 : nth ρ4 j <;> simp only [e1] at hP3 <;> try exact hP3.elim
        rename_i fl xs
        cases fl with
        | fz => exact hP3.elim
        | ow =>
          cases e2 : hv ρ4 h2 <;> simp only [e2] at hP3 mi <;> try exact hP3.elim
          rename_i kk
          cases e3 : ixN xs.length kk with
          | none => simp only [e3] at hP3; exact hP3.elim
          | some m =>
            simp only [e3] at hP3
            have k6 : Hold g.T H3 (its ρ4 σ ++ ((a, v0) :: τ)) := by
              have : Hold g.T H3 (hit h2 i1 ++ (its ρ4 σ ++ ((a, v0) :: τ))) := k5.perm (permc fun _ x => by simp only [List.count_append, List.count_cons]; omega)
              exact this.right
            have k7 := k6.slotOut f4 cj
            rw [e1] at k7
            obtain ⟨p, vs, rfl, hp, hl, _⟩ := k7.g_lst List.mem_cons_self
            refine ⟨p, vs, kk, m, rfl, k5.g_int mi, hp, by rw [hl]; exact e3, ?_⟩
            have k8 := Hold.write k7 (o := .lst (vs.set m v0)) rfl (b := .lst .ow (xs.set m a)) rfl fun F s ra ow => ⟨p, _, rfl, upd_same, by
              obtain ⟨p', vs', ev, hp', r⟩ := ra
              cases ev
              rw [hp] at hp'; cases hp'
              exact r.set m ((Own.fz o4).mp (ow (a, v0) (by simp))) o4⟩
            have k9 := k8.slotIn f4 cj
            have k10 : Hold g.T (upd H3 p (.lst (vs.set m v0))) (its (ρ4.set j (.lst .ow (xs.set m a))) σ ++ τ) := k9.sub (List.Sublist.append_left (List.sublist_cons_self ..) _)
            exact hP3 σ _ (f4.re cj fun z => by cases z) k10
        | io =>
          cases e2 : hv ρ4 h2 <;> simp only [e2] at hP3 mi <;> try exact hP3.elim
          rename_i kk
          cases e3 : ixN xs.length kk with
          | none => simp only [e3] at hP3; exact hP3.elim
          | some m =>
            simp only [e3] at hP3
            have k6 : Hold g.T H3 (its ρ4 σ ++ ((a, v0) :: τ)) := by
              have : Hold g.T H3 (hit h2 i1 ++ (its ρ4 σ ++ ((a, v0) :: τ))) := k5.perm (permc fun _ x => by simp only [List.count_append, List.count_cons]; omega)
              exact this.right
            have k7 := k6.slotOut f4 cj
            rw [e1] at k7
            obtain ⟨p, vs, rfl, hp, hl, _⟩ := k7.g_lst List.mem_cons_self
            refine ⟨p, vs, kk, m, rfl, k5.g_int mi, hp, by rw [hl]; exact e3, ?_⟩
            have k8 := Hold.write k7 (o := .lst (vs.set m v0)) rfl (b := .lst .io (xs.set m a)) rfl fun F s ra ow => ⟨p, _, rfl, upd_same, by
              obtain ⟨p', vs', ev, hp', r⟩ := ra
              cases ev
              rw [hp] at hp'; cases hp'
              exact r.set m ((Own.fz o4).mp (ow (a, v0) (by simp))) o4⟩
            have k9 := k8.slotIn f4 cj
            have k10 : Hold g.T (upd H3 p (.lst (vs.set m v0))) (its (ρ4.set j (.lst .io (xs.set m a))) σ ++ τ) := k9.sub (List.Sublist.append_left (List.sublist_cons_self ..) _)
            exact hP3 σ _ (f4.re cj fun _ => by rw [e1]; rfl) k10
theorem putF_zip : ∀ {ns : List Str} {vs : List V} {i : Nat} {f : Str} {v : V}, ns.Nodup → ns[i]? = some f → (i < vs.length → putF f v (ns.zip vs) = ns.zip (vs.set i v)) ∧ (i = vs.length → putF f v (ns.zip vs) = ns.zip (vs ++ [v]))
  | [], _, _, _, _, _, e => by simp at e
  | n :: ns, [], 0, f, v, _, e => by simp at e; subst e; exact ⟨fun h => by simp at h, fun _ => by simp [putF]⟩
  | n :: ns, [], i + 1, f, v, _, e => ⟨fun h => by simp at h, fun h => by simp at h⟩
  | n :: ns, w :: vs, 0, f, v, _, e => by
    simp at e; subst e
    exact ⟨fun _ => by simp [putF], fun h => by simp at h⟩
  | n :: ns, w :: vs, i + 1, f, v, nd, e => by
    obtain ⟨q1, q2⟩ := putF_zip (vs := vs) (i := i) (f := f) (v := v) (List.nodup_cons.mp nd).2 (by simpa using e)
    have ne : ¬ n = f := fun z => (List.nodup_cons.mp nd).1 (by rw [z]; exact List.mem_of_getElem? (by simpa using e))
    refine ⟨fun h => ?_, fun h => ?_⟩
    · simp only [List.zip_cons_cons, putF, if_neg ne, List.set_cons_succ, q1 (by simpa using h)]
    · simp only [List.zip_cons_cons, putF, if_neg ne, List.cons_append, q2 (by simpa using h)]
theorem sv_at {c : String} {n : Nat} {f : Str} (hK : X.K = g.T.K) (cl : Cls g.T.K (g.T.ca c)) (na : NoAttr g.T.K (g.T.ca c) f) (hn : (g.T.flds c)[n]? = some f) (nd : (g.T.flds c).Nodup) (few : (g.T.flds c).length < 1000) (ho : EV g X o fo) (hv' : EV g X v fv)
    (hs : swapsWith v (some (.Attribute o f tpos)) pos.line X.env = pure false := by rfl) : SV g X (.Assign [.Attribute o f tpos] v pos) (sAt c n fo fv) :=
  sv_of (ps_fld ho hv' hs) fun D σ H ρ τ ft h hP => stepES ft h hP fun h0 ρ1 hP1 v0 H1 f1 s1 k1 => by
    have st : ∀ {fa : M Hd} {k : Hd → M Fw} {ρ : List PV} {ε : Its} {H : Hp} {Q' : VK}, Fits g.s0 ρ σ → Hold g.T H (its ρ σ ++ (ε ++ τ)) → PS1 g τ D ((fa ρ).bind k) → (∀ h ρ1, PS1 g τ D (k h ρ1) → ∀ v H1, Fits g.s0 ρ1 σ → slotAt σ h v → Hold g.T H1 (hit h v ++ (its ρ1 σ ++ (ε ++ τ))) → Q' v H1) → trE g fa σ H Q' := by
      intro fa k ρ ε H Q' ft h hP hk
      refine ⟨ρ, ε ++ τ, ft, h, ?_⟩
      cases e : fa ρ with
      | ok h ρ1 => rw [e] at hP; exact hk h ρ1 hP
      | exc c xs ρ1 => rw [e] at hP; exact fun d vs H' fx hx hl hh => hP d vs σ H' fx hx hl (hh.sub (List.Sublist.append_left (List.Sublist.append_left (List.sublist_append_right ..) _) _))
      | stuck => rw [e] at hP; exact hP
    refine st (ε := hit h0 v0) f1 (mid k1) hP1 fun h1 ρ2 hP2 o1 H2 f2 s2 k2 => ?_
    cases h1 with
    | tm a => exact hP2.elim
    | sl j =>
      cases e0 : take ρ2 h0 with
      | none => simp only [e0] at hP2; exact hP2.elim
      | some p =>
        obtain ⟨a, ρ4⟩ := p
        simp only [e0] at hP2
        have k4 : Hold g.T H2 (hit h0 v0 ++ (its ρ2 σ ++ τ)) := k2.perm (permc fun _ x => by simp only [hit, List.count_append, List.count_nil]; omega)
        obtain ⟨f4, o4, k5⟩ := take_ok f2 s1 k4 e0
        have cj := s2 j rfl
        cases e1 : nth ρ4 j <;> simp only [e1] at hP2 <;> try exact hP2.elim
        rename_i fl c' xs
        have main : fl ≠ .fz → PS1 g τ D (if c' = c then (match putA xs n a with
            | some ys => .ok .nx (ρ4.set j (.obj fl c' ys))
            | none => .stuck) else .stuck) → ∃ a C dx fs, o1 = .ref a ∧ H2 a = some (.ins C dx fs) ∧ Cls X.K C ∧ NoAttr X.K C f ∧ fs.length < 1000 ∧ D.nx σ (upd H2 a (.ins C dx (putF f v0 fs))) := by
          intro hfl hQ
          split at hQ
          · rename_i hc
            subst hc
            have own : ∀ ys, (PV.obj fl c' ys).own = true := fun ys => by cases fl <;> first | rfl | exact absurd rfl hfl
            have k6 : Hold g.T H2 (its ρ4 σ ++ ((a, v0) :: τ)) := k5.perm (permc fun _ x => by simp only [List.count_append, List.count_cons]; omega)
            have k7 := k6.slotOut f4 cj
            rw [e1] at k7
            obtain ⟨p, dx, vs, rfl, hp, hl, ll⟩ := k7.g_obj List.mem_cons_self
            refine ⟨p, _, dx, _, rfl, hp, by rw [hK]; exact cl, by rw [hK]; exact na, by rw [List.length_zip]; omega, ?_⟩
            obtain ⟨z1, z2⟩ := putF_zip (vs := vs) (v := v0) nd hn
            have hn' : n < (g.T.flds c').length := (List.getElem?_eq_some_iff.mp hn).1
            have fin : ∀ {ys : List PV} {ws : List V}, putF f v0 ((g.T.flds c').zip vs) = (g.T.flds c').zip ws → ws.length ≤ (g.T.flds c').length → (∀ F, Reps g.T F xs vs → Rep g.T F a v0 → Reps g.T F ys ws) → PS1 g τ D (.ok .nx (ρ4.set j (.obj fl c' ys))) → D.nx σ (upd H2 p (.ins (g.T.ca c') dx (putF f v0 ((g.T.flds c').zip vs)))) := by
              intro ys ws ez hw hr hP3
              rw [ez]
              have k8 := Hold.write k7 (o := .ins (g.T.ca c') dx ((g.T.flds c').zip ws)) (own xs) (b := .obj fl c' ys) (own ys) fun F s ra ow => ⟨p, dx, ws, rfl, upd_same, hw, by
                obtain ⟨p', dx', vs', ev, hp', hl', r⟩ := ra
                cases ev
                rw [hp] at hp'
                injection hp' with e1
                injection e1 with e2 e3 e4
                have : vs' = vs := by
                  have z := congrArg (List.map Prod.snd) e4
                  rw [List.map_snd_zip hl', List.map_snd_zip hl] at z
                  exact z.symm
                subst this
                exact hr F r ((Own.fz o4).mp (ow (a, v0) (by simp)))⟩
              have k9 := k8.slotIn f4 cj
              have k10 : Hold g.T _ (its (ρ4.set j (.obj fl c' ys)) σ ++ τ) := k9.sub (List.Sublist.append_left (List.sublist_cons_self ..) _)
              exact hP3 σ _ (f4.re cj fun z => by rw [e1]; exact z) k10
            unfold putA at hQ
            by_cases c1 : n < xs.length
            · rw [if_pos c1] at hQ
              exact fin (z1 (by rw [ll]; exact c1)) (by rw [List.length_set]; exact hl) (fun F r ra => r.set n ra o4) hQ
            · rw [if_neg c1] at hQ
              by_cases c2 : n = xs.length
              · rw [if_pos c2] at hQ
                exact fin (z2 (by rw [ll]; exact c2)) (by rw [List.length_append, ll]; simp; omega) (fun F r ra => r.append (.cons ra o4 .nil)) hQ
              · rw [if_neg c2] at hQ; exact hQ.elim
          · exact hQ.elim
        cases fl with
        | fz => exact hP2.elim
        | ow => exact main (by intro z; cases z) hP2
        | io => exact main (by intro z; cases z) hP2
end
end VL

set_option Elab.async false
set_option linter.all false
set_option maxRecDepth 100000
/-! Methods of built-in types, enumerate, raise, by values. -/
namespace VL
open PySem PySem.Spec PyProof.Rows L2

def kT : PV → String
  | .str _ => "str"
  | .lst _ _ => "list"
  | .scr _ => "list"
  | .dK _ _ _ => "dict"
  | .dT _ _ _ => "dict"
  | .int _ => "int"
  | _ => ""
/-- a method that only reads -/
def eMt (T : String) (op : PV → List PV → Option PV) (fo : M Hd) (fs : M (List Hd)) : M Hd := fun ρ => (fo ρ).bind fun h ρ1 => if kT (hv ρ1 h) = T then (fs ρ1).bind fun hs ρ2 => ofO ρ2 (op (hv ρ2 h) (hs.map (hv ρ2))) else .stuck
def muEnd (op : PV → List PV → Option (PV × PV)) (h : Hd) (p : Option (List PV × List PV)) : R Hd := match h, p with
  | .sl i, some (as, ρ3) => (match op (nth ρ3 i) as with
    | some (c, a) => .ok (.tm c) (ρ3.set i a)
    | none => .stuck)
  | _, _ => .stuck
/-- a method that changes the object in a slot -/
def eMu (T : String) (op : PV → List PV → Option (PV × PV)) (fo : M Hd) (fs : M (List Hd)) : M Hd := fun ρ => (fo ρ).bind fun h ρ1 => if kT (hv ρ1 h) = T then (fs ρ1).bind fun hs ρ2 => muEnd op h (takes hs ρ2) else .stuck
def Mtv (T : Tb) (op : PV → List PV → Option PV) (r : V → List V → Hp → VK → Prop) : Prop := ∀ (H : Hp) (l : Its) (a c : PV) (as : List PV) (v : V) (vs : List V) (Q : VK), Hold T H l → (a, v) ∈ l → vs.length = as.length → (∀ x ∈ as.zip vs, x ∈ l) → op a as = some c → (∀ z H', Hold T H' ((c, z) :: l) → Q z H') → r v vs H Q
def Muv (T : Tb) (op : PV → List PV → Option (PV × PV)) (r : V → List V → Hp → VK → Prop) : Prop := ∀ (H : Hp) (l : Its) (a a' c : PV) (as : List PV) (v : V) (vs : List V) (Q : VK), Hold T H ((a, v) :: l) → vs.length = as.length → (∀ b ∈ as, b.own = false) → (∀ x ∈ as.zip vs, x ∈ l) → op a as = some (c, a') →
  a'.fl = a.fl ∧ a'.isEmp = false ∧ ((∀ z H', Hold T H' ((c, z) :: (a', v) :: l) → Q z H') → r v vs H Q)
section
variable {g : G} {X : Cx} {e o : Expr} {es : List Expr} {fo : M Hd} {fs : M (List Hd)} {apos cpos : Pos} {name : Str} {T id : String} {op : PV → List PV → Option PV} {opu : PV → List PV → Option (PV × PV)} {r : V → List V → Hp → VK → Prop}
theorem tyV_of {Tb : Tb} {H : Hp} {l : Its} {a : PV} {v : V} (k : Hold Tb H l) (m : (a, v) ∈ l) (e : kT a = T) (ne : T ≠ "") : tyV Tb.K T v H := by
  obtain ⟨F, s, r, _⟩ := k.get m
  subst e
  cases a with
  | str x => cases r; rfl
  | int x => cases r; rfl
  | lst o xs => obtain ⟨p, vs, rfl, h1, _⟩ := r; exact .inl ⟨rfl, vs, SqL.of h1⟩
  | scr ns => obtain ⟨p, rfl, h1⟩ := r; exact .inl ⟨rfl, _, h1⟩
  | dK o ks xs => obtain ⟨p, vs, rfl, h1, _⟩ := r; exact .inr (.inr (.inl ⟨rfl, .inl ⟨_, h1⟩⟩))
  | dT o ks xs => obtain ⟨p, vs, rfl, h1, _⟩ := r; exact .inr (.inr (.inl ⟨rfl, .inr ⟨_, h1⟩⟩))
  | _ => exact absurd rfl ne
theorem mt_fin {σ : L2.St} {ρ1 ρ2 : List PV} {τ : Its} {Q : VK} {h1 : Hd} {v : V} {hs : List Hd} {vs : List V} {H2 : Hp} (hm : Mtv g.T op r) (s1 : slotAt σ h1 v) (f2 : Fits g.s0 ρ2 σ) (s2 : slotsAt σ hs vs) (k2 : Hold g.T H2 (hits hs vs ++ (its ρ2 σ ++ (hit h1 v ++ τ))))
    (hP : Post g σ τ (PE1 g σ τ Q) (ofO ρ2 (op (hv ρ2 h1) (hs.map (hv ρ2))))) : r v vs H2 Q := by
  cases e : op (hv ρ2 h1) (hs.map (hv ρ2)) with
  | none => rw [e] at hP; exact hP.elim
  | some c =>
    rw [e] at hP
    obtain ⟨q1, q2⟩ := mems_of (l := hits hs vs ++ (its ρ2 σ ++ (hit h1 v ++ τ))) f2 s2 (fun x hx => by simp [hx]) fun x hx => by simp [hx]
    exact hm H2 _ _ c _ v vs Q k2 (mem_of f2 s1 (fun x hx => by simp [hx]) fun x hx => by simp [hx]) q1 q2 e fun z H' k' => hP z H' f2 slot_tm (show Hold g.T H' ((c, z) :: (its ρ2 σ ++ τ)) from k'.sub (.cons_cons _ (sub3 ..)))
theorem ev_mt (hK : X.K = g.T.K) (pa : PlainAttrs T) (slot : Slot T name id) (hty : typeOf (.builtin id) = pure (.type "method_descriptor")) (ne : T ≠ "") (hm : MtR X id r) (hv' : Mtv g.T op r) (ho : EV g X o fo) (ha : AV g X (e :: es) fs)
    (hbase : attributeBase o name X.env (eval o X.env) = eval o X.env := by rfl)
    (hfew : ((backTo cpos (starEach (e :: es) X.env)).all (fun x => !x.1) && (backToKw cpos (keywordEach [] X.env)).all (fun x => x.1.isSome)
      && decide ((e :: es).length + ([] : List Keyword).length + (if ([] : List Keyword).isEmpty then 0 else 1) < 30)) = true := by rfl)
    (hline : (apos.endLine == cpos.line) = true := by rfl) (hs : starEach (e :: es) X.env = (false, eval e X.env) :: starEach es X.env := by rfl) (hplain : (backTo cpos (starEach es X.env)).any (·.1) = false := by rfl) :
    EV g X (.Call (.Attribute o name apos) (e :: es) [] cpos) (eMt T op fo fs) :=
  ev_of (pe_bm pa slot hty hm ho ha hbase hfew hline hs hplain) fun σ H Q ρ τ f h hP => stepE (ε := []) f (nilT h) hP fun h1 ρ1 hP1 v H1 f1 s1 k1 => by
    rw [List.nil_append] at k1
    split at hP1
    · rename_i hk
      refine ⟨by rw [hK]; exact tyV_of k1 (mem_hv f1 s1) hk ne, ?_⟩
      exact stepA (ε := hit h1 v) f1 (mid k1) hP1 fun hs ρ2 hP2 vs H2 f2 s2 k2 => mt_fin (ρ1 := ρ1) hv' s1 f2 s2 k2 hP2
    · exact hP1.elim
theorem ev_mt0 (hK : X.K = g.T.K) (pa : PlainAttrs T) (slot : Slot T name id) (hty : typeOf (.builtin id) = pure (.type "method_descriptor")) (ne : T ≠ "") (hm : MtR X id r) (hv' : Mtv g.T op r) (ho : EV g X o fo)
    (hbase : attributeBase o name X.env (eval o X.env) = eval o X.env := by rfl) (hline : (apos.endLine == cpos.line) = true := by rfl) : EV g X (.Call (.Attribute o name apos) [] [] cpos) (eMt T op fo aNil) :=
  ev_of (pe_bm0 pa slot hty hm ho hbase hline) fun σ H Q ρ τ f h hP => stepE (ε := []) f (nilT h) hP fun h1 ρ1 hP1 v H1 f1 s1 k1 => by
    rw [List.nil_append] at k1
    split at hP1
    · rename_i hk
      refine ⟨by rw [hK]; exact tyV_of k1 (mem_hv f1 s1) hk ne, ?_⟩
      exact mt_fin (ρ1 := ρ1) (hs := []) hv' s1 f1 rfl (k1.perm (permc fun _ x => by simp only [hits, List.count_append, List.count_nil]; omega)) hP1
    · exact hP1.elim
theorem mu_fin {σ : L2.St} {ρ2 : List PV} {τ : Its} {Q : VK} {h1 : Hd} {v : V} {hs : List Hd} {vs : List V} {H2 : Hp} (hm : Muv g.T opu r) (s1 : slotAt σ h1 v) (f2 : Fits g.s0 ρ2 σ) (s2 : slotsAt σ hs vs) (k2 : Hold g.T H2 (hits hs vs ++ (its ρ2 σ ++ (hit h1 v ++ τ))))
    (hP : Post g σ τ (PE1 g σ τ Q) (muEnd opu h1 (takes hs ρ2))) : r v vs H2 Q := by
  cases h1 with
  | tm a => exact hP.elim
  | sl i =>
    cases e0 : takes hs ρ2 with
    | none => rw [e0] at hP; exact hP.elim
    | some p =>
      obtain ⟨as, ρ3⟩ := p
      rw [e0] at hP
      simp only [muEnd] at hP
      have k3 : Hold g.T H2 (hits hs vs ++ (its ρ2 σ ++ τ)) := by simpa [hit] using k2
      obtain ⟨f3, l3, o3, k4⟩ := takes_ok f2 s2 k3 e0
      have ci := s1 i rfl
      have k5 : Hold g.T H2 (its ρ3 σ ++ (as.zip vs ++ τ)) := mid k4
      have k6 := k5.slotOut f3 ci
      cases e1 : opu (nth ρ3 i) as with
      | none => rw [e1] at hP; exact hP.elim
      | some p =>
        obtain ⟨c, a'⟩ := p
        rw [e1] at hP
        obtain ⟨fl, ne, go⟩ := hm H2 _ (nth ρ3 i) a' c as v vs Q k6 l3 o3 (fun x hx => List.mem_append_right _ (List.mem_append_left _ hx)) e1
        refine go fun z H' k7 => ?_
        have k8 : Hold g.T H' ((a', v) :: (its (ρ3.set i .emp) σ ++ ((c, z) :: (as.zip vs ++ τ)))) := k7.perm (permc fun _ x => by simp only [List.count_append, List.count_cons]; omega)
        have k9 := k8.slotIn f3 ci
        refine hP z H' (f3.re ci fun q => by rw [← io_eq fl]; exact q) slot_tm ?_
        have k10 : Hold g.T H' (as.zip vs ++ ((c, z) :: (its (ρ3.set i a') σ ++ τ))) := k9.perm (permc fun _ x => by simp only [List.count_append, List.count_cons]; omega)
        exact k10.right
theorem ev_mu (hK : X.K = g.T.K) (pa : PlainAttrs T) (slot : Slot T name id) (hty : typeOf (.builtin id) = pure (.type "method_descriptor")) (ne : T ≠ "") (hm : MtR X id r) (hv' : Muv g.T opu r) (ho : EV g X o fo) (ha : AV g X (e :: es) fs)
    (hbase : attributeBase o name X.env (eval o X.env) = eval o X.env := by rfl)
    (hfew : ((backTo cpos (starEach (e :: es) X.env)).all (fun x => !x.1) && (backToKw cpos (keywordEach [] X.env)).all (fun x => x.1.isSome)
      && decide ((e :: es).length + ([] : List Keyword).length + (if ([] : List Keyword).isEmpty then 0 else 1) < 30)) = true := by rfl)
    (hline : (apos.endLine == cpos.line) = true := by rfl) (hs : starEach (e :: es) X.env = (false, eval e X.env) :: starEach es X.env := by rfl) (hplain : (backTo cpos (starEach es X.env)).any (·.1) = false := by rfl) :
    EV g X (.Call (.Attribute o name apos) (e :: es) [] cpos) (eMu T opu fo fs) :=
  ev_of (pe_bm pa slot hty hm ho ha hbase hfew hline hs hplain) fun σ H Q ρ τ f h hP => stepE (ε := []) f (nilT h) hP fun h1 ρ1 hP1 v H1 f1 s1 k1 => by
    rw [List.nil_append] at k1
    split at hP1
    · rename_i hk
      refine ⟨by rw [hK]; exact tyV_of k1 (mem_hv f1 s1) hk ne, ?_⟩
      exact stepA (ε := hit h1 v) f1 (mid k1) hP1 fun hs ρ2 hP2 vs H2 f2 s2 k2 => mu_fin hv' s1 f2 s2 k2 hP2
    · exact hP1.elim
theorem ev_mu0 (hK : X.K = g.T.K) (pa : PlainAttrs T) (slot : Slot T name id) (hty : typeOf (.builtin id) = pure (.type "method_descriptor")) (ne : T ≠ "") (hm : MtR X id r) (hv' : Muv g.T opu r) (ho : EV g X o fo)
    (hbase : attributeBase o name X.env (eval o X.env) = eval o X.env := by rfl) (hline : (apos.endLine == cpos.line) = true := by rfl) : EV g X (.Call (.Attribute o name apos) [] [] cpos) (eMu T opu fo aNil) :=
  ev_of (pe_bm0 pa slot hty hm ho hbase hline) fun σ H Q ρ τ f h hP => stepE (ε := []) f (nilT h) hP fun h1 ρ1 hP1 v H1 f1 s1 k1 => by
    rw [List.nil_append] at k1
    split at hP1
    · rename_i hk
      refine ⟨by rw [hK]; exact tyV_of k1 (mem_hv f1 s1) hk ne, ?_⟩
      exact mu_fin (hs := []) (vs := []) hv' s1 f1 rfl (show Hold g.T H1 (its ρ1 σ ++ (hit h1 v ++ τ)) from mid k1) hP1
    · exact hP1.elim
end

/-! ### lists -/
def uAppend : PV → List PV → Option (PV × PV)
  | .lst o xs, [a] => if o = .fz then none else if xs.length < lim then some (.non, .lst o (xs ++ [a])) else none
  | _, _ => none
def uPop0 : PV → List PV → Option (PV × PV)
  | .lst o xs, [] => if o = .fz then none else (match xs[xs.length - 1]? with
    | some y => some (y, .lst o xs.dropLast)
    | none => none)
  | _, _ => none
def uPop1 : PV → List PV → Option (PV × PV)
  | .lst o xs, [.int i] => if o = .fz then none else if i.natAbs ≤ lim then (match ixN xs.length i with
    | some j => (match xs[j]? with
      | some y => some (y, .lst o (xs.eraseIdx j))
      | none => none)
    | none => none) else none
  | _, _ => none
def uInsert : PV → List PV → Option (PV × PV)
  | .lst o xs, [.int i, a] => if o = .fz then none else if xs.length < lim ∧ 0 ≤ i ∧ i < 2 ^ 63 then some (.non, .lst o (xs.take i.toNat ++ [a] ++ xs.drop i.toNat)) else none
  | _, _ => none
def uExtend : PV → List PV → Option (PV × PV)
  | .lst o xs, [.lst _ ys] => if o = .fz then none else if xs.length + ys.length ≤ lim then some (.non, .lst o (xs ++ ys)) else none
  | _, _ => none
section
variable {T : Tb}
/-- an own list: where it lies, and how it is changed -/
theorem lst_write {H : Hp} {l : Its} {o : Fl} {xs : List PV} {v : V} (ho : o ≠ .fz) (k : Hold T H ((.lst o xs, v) :: l)) : ∃ p vs, v = .ref p ∧ H p = some (.lst vs) ∧ vs.length = xs.length ∧
    ∀ ys ws, (∀ F, Same F H → Reps T F xs vs → (∀ x ∈ l, Own T H F x.1 x.2) → Reps T F ys ws) → Hold T (upd H p (.lst ws)) ((.lst o ys, v) :: l) := by
  obtain ⟨p, vs, rfl, hp, hl, _⟩ := k.g_lst List.mem_cons_self
  have own : ∀ ys, (PV.lst o ys).own = true := fun ys => by cases o <;> first | rfl | exact absurd rfl ho
  refine ⟨p, vs, rfl, hp, hl, fun ys ws q => ?_⟩
  exact Hold.write k (own xs) (own ys) fun F s ra ow => ⟨p, ws, rfl, upd_same, by
    obtain ⟨p', vs', ev, hp', r⟩ := ra
    cases ev
    rw [hp] at hp'; cases hp'
    exact q F s r ow⟩
theorem u_append : Muv T uAppend rAppend := by
  intro H l a a' c as v vs Q k hl ho hm e
  unfold uAppend at e
  split at e
  · rename_i o xs b
    split at e
    · cases e
    · rename_i hfz
      split at e <;> cases e
      rename_i hz
      refine ⟨rfl, rfl, fun q => ?_⟩
      obtain ⟨v0, rfl, m⟩ := one_arg rfl hl hm
      obtain ⟨p, vs, rfl, hp, hl2, wr⟩ := lst_write hfz k
      have hb := ho b (by simp)
      exact ⟨p, vs, v0, rfl, rfl, hp, by rw [hl2]; exact lim_lt hz, q _ _ (wr _ _ fun F s r ow => r.append (.cons ((Own.fz hb).mp (ow (b, v0) m)) hb .nil)).non⟩
  · cases e
theorem u_insert : Muv T uInsert (fun x vs H Q => ∃ (l : Addr) (xs : List V) (i : Int) (y : V), x = .ref l ∧ vs = [.int i, y] ∧ H l = some (.lst xs) ∧ xs.length < sizeLine ∧ 0 ≤ i ∧ i < 2 ^ 63 ∧ Q .non (upd H l (.lst (xs.take i.toNat ++ [y] ++ xs.drop i.toNat)))) := by
  intro H l a a' c as v vs Q k hl ho hm e
  unfold uInsert at e
  split at e
  · rename_i o xs i b
    split at e
    · cases e
    · rename_i hfz
      split at e <;> cases e
      rename_i hz
      refine ⟨rfl, rfl, fun q => ?_⟩
      obtain ⟨w, v0, rfl, m1, m2⟩ := two_arg rfl hl hm
      have ew := k.g_int (List.mem_cons_of_mem _ m1)
      obtain ⟨p, vs, rfl, hp, hl2, wr⟩ := lst_write hfz k
      have hb := ho b (by simp)
      exact ⟨p, vs, i, v0, rfl, by rw [ew], hp, by rw [hl2]; exact lim_lt hz.1, hz.2.1, hz.2.2, q _ _ (wr _ _ fun F s r ow => ((r.take _).append (.cons ((Own.fz hb).mp (ow (b, v0) m2)) hb .nil)).append (r.drop _)).non⟩
  · cases e
theorem u_extend : Muv T uExtend rExtend := by
  intro H l a a' c as v vs Q k hl ho hm e
  unfold uExtend at e
  split at e
  · rename_i o xs fl ys
    split at e
    · cases e
    · rename_i hfz
      split at e <;> cases e
      rename_i hz
      refine ⟨rfl, rfl, fun q => ?_⟩
      obtain ⟨v0, rfl, m⟩ := one_arg rfl hl hm
      obtain ⟨p2, ws, ev2, hp2, hl3, _⟩ := k.g_lst (List.mem_cons_of_mem _ m)
      obtain ⟨p, vs, rfl, hp, hl2, wr⟩ := lst_write hfz k
      subst ev2
      exact ⟨p, p2, vs, ws, rfl, rfl, hp, hp2, lim_le (by rw [hl2, hl3]; exact hz), q _ _ (wr _ _ fun F s r ow => r.append (reps_lst s ow m hp2)).non⟩
  · cases e
theorem Reps.dropLast {F : Hp} {xs : List PV} {vs : List V} (r : Reps T F xs vs) : Reps T F xs.dropLast vs.dropLast := by
  rw [List.dropLast_eq_take, List.dropLast_eq_take, r.length]; exact r.take _
/-- an item of an own list by itself, the list changed behind it -/
theorem pop_at {H : Hp} {l : Its} {o : Fl} {xs ys : List PV} {p : Addr} {vs ws : List V} {j : Nat} {y : PV} {y' : V} (hfz : o ≠ .fz) (k : Hold T H ((.lst o xs, .ref p) :: l)) (hp : H p = some (.lst vs)) (h1 : xs[j]? = some y) (h2 : vs[j]? = some y')
    (r : ∀ F, Reps T F xs vs → Reps T F ys ws) : Hold T (upd H p (.lst ws)) ((y, y') :: (.lst o ys, .ref p) :: l) := by
  have k2 : Hold T H ((y, y') :: (.lst o xs, .ref p) :: l) := by
    have own : y.own = false := by
      obtain ⟨F, s, ⟨p', ws, ev, hp', r⟩, _⟩ := k.get List.mem_cons_self
      obtain ⟨_, _, _, z⟩ := r.at h1
      exact z
    refine k.add own fun F s ow => ?_
    have r := reps_lst s ow List.mem_cons_self hp
    obtain ⟨w, h3, h4, _⟩ := r.at h1
    rw [h2] at h3; cases h3
    exact h4
  have k3 : Hold T H ((.lst o xs, .ref p) :: ((y, y') :: l)) := k2.perm (List.Perm.swap ..)
  obtain ⟨p2, vs2, ev, hp2, _, wr2⟩ := lst_write hfz k3
  cases ev
  rw [hp] at hp2; cases hp2
  exact (wr2 _ _ fun F s r' ow => r F r').perm (List.Perm.swap ..)
theorem u_pop0 : Muv T uPop0 rPop := by
  intro H l a a' c as v vs Q k hl ho hm e
  unfold uPop0 at e
  split at e
  · rename_i o xs
    split at e
    · cases e
    · rename_i hfz
      split at e <;> cases e
      rename_i h1
      refine ⟨rfl, rfl, fun q => ?_⟩
      obtain ⟨p, vs', rfl, hp, hl2, wr⟩ := lst_write hfz k
      have vs0 : vs = [] := by cases vs <;> simp at hl; rfl
      subst vs0
      have lt : xs.length - 1 < xs.length := (List.getElem?_eq_some_iff.mp h1).1
      obtain ⟨y', h2⟩ : ∃ y', vs'[vs'.length - 1]? = some y' := ⟨vs'[vs'.length - 1]'(by omega), by simp⟩
      exact ⟨p, vs', y', rfl, rfl, hp, h2, q _ _ (pop_at hfz k hp h1 (by rw [hl2] at h2; exact h2) fun F r => r.dropLast)⟩
  · cases e
theorem u_pop1 : Muv T uPop1 rPopAt := by
  intro H l a a' c as v vs Q k hl ho hm e
  unfold uPop1 at e
  split at e
  · rename_i o xs i
    split at e
    · cases e
    · rename_i hfz
      split at e
      · rename_i hz
        split at e
        · rename_i j h0
          split at e <;> cases e
          rename_i h1
          refine ⟨rfl, rfl, fun q => ?_⟩
          obtain ⟨v0, rfl, m⟩ := one_arg rfl hl hm
          have ev0 := k.g_int (List.mem_cons_of_mem _ m)
          obtain ⟨p, vs', rfl, hp, hl2, wr⟩ := lst_write hfz k
          obtain ⟨s1, s2, s3, s4⟩ := ixN_seq h0
          have h2 : vs'[j]? = some (vs'[j]'(by omega)) := by simp
          have hlim : lim = 100000 := rfl
          exact ⟨p, vs', i, j, _, rfl, by rw [ev0], hp, by omega, by omega, by rw [hl2]; exact s1, h2, q _ _ (pop_at hfz k hp h1 h2 fun F r => r.eraseIdx j)⟩
        · cases e
      · cases e
  · cases e
end

/-! ### raise X(e), X with one field -/
def fmtOk : PV → Bool
  | .non => true
  | .int i => decide (i.natAbs.log2 < 1920)
  | .str y => decide (y.length ≤ 2000)
  | _ => false
def sRaise1 (c : String) (ok : PV → Bool) (fs : M (List Hd)) : M Fw := fun ρ => (fs ρ).bind fun hs ρ1 => match takes hs ρ1 with
  | some ([a], ρ2) => if ok a = true then .exc c [a] ρ2 else .stuck
  | _ => .stuck
section
variable {g : G} {X : Cx} {e : Expr} {es : List Expr} {fs : M (List Hd)} {k : Nat} {x nm : Str} {c : String} {p pos pos' : Pos}
theorem sv_raise1 {okf : V → Prop} {ok : PV → Bool} (hok : ∀ (H : Hp) (l : Its) (a : PV) (v : V), Hold g.T H l → (a, v) ∈ l → ok a = true → okf v) (hc : X.calm = true) (tk : Takes X g.W) (D : My.DnE X.prog X.w X.K X.mg X.base k x (g.T.ca c) (My.spErr1 okf nm (g.T.ca c)))
    (hr : Room (k + 1) X.A) (hg : Gl X x) (hf : g.T.flds c = [nm]) (ha : AV g X (e :: es) fs) (hdb : (x == ("__debug__" : Str)) = false := by decide) (he : starEach (e :: es) X.env = (false, eval e X.env) :: starEach es X.env := by rfl) (hpl : (backTo pos (starEach es X.env)).any (·.1) = false := by rfl) :
    SV g X (.Raise (some (.Call (.Name x p) (e :: es) [] pos)) none pos') (sRaise1 c ok fs) :=
  sv_of (My.ps_raise1 hc tk D hr hg ha hdb he hpl) fun D' σ H ρ τ ft h hP => stepAS ft h hP fun hs ρ1 hP1 vs H1 f1 s1 k1 => by
    cases e0 : takes hs ρ1 with
    | none => simp only [e0] at hP1; exact hP1.elim
    | some q =>
      obtain ⟨as, ρ2⟩ := q
      simp only [e0] at hP1
      obtain ⟨f2, l2, o2, k2⟩ := takes_ok f1 s1 k1 e0
      match as, l2, hP1 with
      | [a], l2, hP1 =>
        simp only at hP1
        split at hP1
        · rename_i hok'
          obtain ⟨v, rfl⟩ : ∃ v, vs = [v] := by
            match vs, l2 with
            | [v], _ => exact ⟨v, rfl⟩
          refine ⟨v, rfl, hok H1 _ a v k2 (by simp) hok', fun d H' sm nd hd => ?_⟩
          exact hP1 (some d) [v] σ H' f2 ⟨by rw [hd, hf]; rfl, by rw [hf]; exact Nat.le_refl _⟩ rfl (k2.same sm)
        · exact hP1.elim
theorem fmt_ok {T : Tb} (H : Hp) (l : Its) (a : PV) (v : V) (k : Hold T H l) (m : (a, v) ∈ l) (h : fmtOk a = true) : My.FmtOk v := by
  cases a with
  | non => rw [k.g_non m]; trivial
  | int i => rw [k.g_int m]; exact (show i.natAbs.log2 < 1920 from of_decide_eq_true h)
  | str y => rw [k.g_str m]; exact (show y.length ≤ 2000 from of_decide_eq_true h)
  | _ => cases h
end
end VL

set_option Elab.async false
set_option linter.all false
set_option maxRecDepth 100000
/-! Short forms, enumerate, zip, constants, the law's end. -/
namespace VL
open PySem PySem.Spec PyProof.Rows L2

theorem hu65 {A : Around} {k : Nat} (hr : Room k A) : A.units + 65 < cLine := by have := hr.un; omega
section
variable {g : G} {X : Cx} {e e2 tg : Expr} {es : List Expr} {fe : M Hd} {fs : M (List Hd)} {pos p tpos : Pos}
theorem evn (i : Nat) {x : Str} {pos : Pos} (hN : X.N[i]? = some x := by rfl) (hv : Vis X.env.scope x := by first | exact Or.inl rfl | exact Or.inr (Or.inl rfl) | exact Or.inr (Or.inr rfl)) (hd : (x == ("__debug__" : Str)) = false := by decide) (hcd : (x == ("__classdict__" : Str)) = false := by decide) :
    EV g X (.Name x pos) (eN i) := ev_name hN hv hd hcd

/-! ### enumerate -/
def iEnV (K : PySem.W.Frag) (ta : TA) : TI := fun σ H R => ta σ H fun vs H1 => ∃ a, vs = [.ref a] ∧ (((∃ xs, SqL K H1 a xs) ∧ R (Ite K a) H1) ∨ ((∃ xs, SqT K H1 a xs) ∧ R (My.IteT K a) H1))
theorem pi_enV {ta : TA} {elts : List Expr} {kk : Nat} (hg : Gl X "enumerate") (hm : X.mg "enumerate" = none) (ha : PA X [e] ta) (hs : starEach [e] X.env = [(false, eval e X.env)] := by rfl) :
    PI X (.Tuple elts kk tpos) (.Call (.Name "enumerate" p) [e] [] pos) (iEnV X.K ta) := by
  refine ⟨fun pins s σ H R I h => ?_⟩
  refine Call_ (ld_blt I hg hm boot_enumerate (PyProof.Rows.callWith_type1 (thn (ha.run pos pins s σ H _ I h) fun us s1 ⟨vs, H1, I1, r1, q1⟩ => ?_) hs rfl))
  obtain ⟨a, ex, hq⟩ := q1
  subst ex
  cases r1 with
  | cons r rr =>
    cases rr
    cases r
    have fp : ∀ b ∈ [s1.heap.objs.size + 1, s1.heap.objs.size], FpOk X pins H1 b := fun b hb => by
      have e' : b = s1.heap.objs.size + 1 ∨ b = s1.heap.objs.size := by simpa using hb
      have hle : s1.heap.objs.size ≤ b := by
        rcases e' with z | z
        · rw [z]; exact Nat.le_add_right _ _
        · rw [z]; exact Nat.le_refl _
      exact I1.fpOk hle (I1.hok.fresh hle)
    rcases hq with ⟨⟨xs, hq⟩, q⟩ | ⟨⟨xs, hq⟩, q⟩
    · obtain ⟨its, rv, p', hz⟩ := I1.list hq
      refine call_enumerate_list p'.isList fun h' he hit hsz hk => wpAny_pyIter_enum he ?_
      have I2 : Inv X pins σ H1 { s1 with heap := h' } := I1.kept (t' := s1.toks) hk
      exact ⟨s1.heap.objs.size + 1, [s1.heap.objs.size + 1, s1.heap.objs.size], _, _, H1, rfl, I2, turn_enum a (s1.heap.objs.size + 1) s1.heap.objs.size, ⟨⟨.none, he⟩, hit, Nat.succ_ne_self _⟩, fp, q⟩
    · obtain ⟨its, rv, p', hz⟩ := I1.tuple hq
      refine My.enum_begins1 (begins_tuple a its.toArray) p' fun h' he ho hk => wpAny_pyIter_enum he ?_
      have I2 : Inv X pins σ H1 { s1 with heap := h' } := I1.kept (t' := s1.toks) hk
      exact ⟨s1.heap.objs.size + 1, [s1.heap.objs.size + 1, s1.heap.objs.size], _, _, H1, rfl, I2, My.turn_enumT a (s1.heap.objs.size + 1) s1.heap.objs.size, ⟨⟨.none, he⟩, ⟨_, ho, rfl, rfl⟩, Nat.succ_ne_self _⟩, fp, q⟩
def pairs : List PV → Nat → List PV
  | [], _ => []
  | x :: xs, n => .tup [.int (n : Nat), x] :: pairs xs (n + 1)
theorem pairs_at : ∀ {xs : List PV} {n i : Nat} {b : PV}, (pairs xs n)[i]? = some b → ∃ x, xs[i]? = some x ∧ b = .tup [.int ((n + i : Nat) : Int), x]
  | [], _, _, _, h => by simp [pairs] at h
  | x :: xs, n, 0, b, h => by simp [pairs] at h; exact ⟨x, rfl, h.symm⟩
  | x :: xs, n, i + 1, b, h => by
    obtain ⟨y, h1, h2⟩ := pairs_at (xs := xs) (n := n + 1) (i := i) (by simpa [pairs] using h)
    exact ⟨y, by simpa using h1, by rw [h2, show n + 1 + i = n + (i + 1) by omega]⟩
theorem pairs_len : ∀ (xs : List PV) (n : Nat), (pairs xs n).length = xs.length
  | [], _ => rfl
  | x :: xs, n => by simp [pairs, pairs_len xs (n + 1)]
theorem pairs_own {xs : List PV} {n : Nat} : ∀ b ∈ pairs xs n, b.own = false := fun b hb => by
  obtain ⟨i, hi⟩ := List.mem_iff_getElem?.mp hb
  obtain ⟨x, _, rfl⟩ := pairs_at hi
  rfl
def iEnumV (fs : M (List Hd)) : M (List PV) := fun ρ => (fs ρ).bind fun hs ρ1 => match takes hs ρ1 with
  | some ([a], ρ2) => ofX ρ2 ((seqOf a).map fun xs => pairs xs 0)
  | _ => .stuck
theorem walk_eL {K : PySem.W.Frag} {a : Addr} {n : Nat} : Walk (Ite K a) n (fun H => ∃ vs, SqL K H a vs ∧ vs.length = n) (fun i H v H' => ∃ T x, v = .ref T ∧ H T = none ∧ H' = upd H T (.tup [.int (i : Nat), x]) ∧ ∀ xs, SqL K H a xs → xs[i]? = some x) :=
  ⟨fun i _ hi ⟨vs, q, hl⟩ => ⟨vs, vs[i]'(by omega), q, by simp⟩, fun _ ⟨vs, q, hl⟩ => ⟨vs, q, by omega⟩, fun _ _ _ _ _ _ y => y⟩
theorem walk_eT {K : PySem.W.Frag} {a : Addr} {n : Nat} : Walk (My.IteT K a) n (fun H => ∃ vs, SqT K H a vs ∧ vs.length = n) (fun i H v H' => ∃ T x, v = .ref T ∧ H T = none ∧ H' = upd H T (.tup [.int (i : Nat), x]) ∧ ∀ xs, SqT K H a xs → xs[i]? = some x) :=
  ⟨fun i _ hi ⟨vs, q, hl⟩ => ⟨vs, vs[i]'(by omega), q, by simp⟩, fun _ ⟨vs, q, hl⟩ => ⟨vs, q, hl⟩, fun _ _ _ _ _ _ y => y⟩
/-- a new pair of two items that stand by themselves -/
theorem pair_new {T : Tb} {H : Hp} {l : Its} {a b : PV} {v w : V} {t : Addr} (k : Hold T H ((a, v) :: (b, w) :: l)) (ha : a.own = false) (hb : b.own = false) (ht : H t = none) : Hold T (upd H t (.tup [v, w])) ((.tup [a, b], .ref t) :: l) := by
  have := Hold.new_fz k ht (o := .tup [v, w]) (a := .tup [a, b]) (v := .ref t) rfl fun F s o => ⟨t, _, rfl, SqT.of upd_same, by
    refine (Reps.cons ((Own.fz ha).mp (o (a, v) (by simp))) ha (.cons ((Own.fz hb).mp (o (b, w) (by simp))) hb .nil)).mono (same_newF s ht _)⟩
  exact this.sub (.cons_cons _ (.cons _ (.cons _ (List.Sublist.refl _))))
theorem ienum_q (hK : X.K = g.T.K) : ∀ (σ : L2.St) (H : Hp) (R : It → Hp → Prop) (ρ : List PV) (τ : Its), Fits g.s0 ρ σ → Hold g.T H (its ρ σ ++ τ) → Post g σ τ (PI1 g σ τ R) (iEnumV fs ρ) → iEnV X.K (trA g fs) σ H R :=
  fun σ H R ρ τ ft h hP => stepA (ε := []) ft (nilT h) hP fun hs ρ1 hP1 vs H1 f1 s1 k1 => by
    rw [List.nil_append] at k1
    cases e0 : takes hs ρ1 with
    | none => simp only [e0] at hP1; exact hP1.elim
    | some q =>
      obtain ⟨as, ρ2⟩ := q
      simp only [e0] at hP1
      obtain ⟨f2, l2, o2, k2⟩ := takes_ok f1 s1 k1 e0
      match as, l2, o2, k2, hP1 with
      | [a], l2, o2, k2, hP1 =>
        obtain ⟨v, rfl⟩ : ∃ v, vs = [v] := by
          match vs, l2 with
          | [v], _ => exact ⟨v, rfl⟩
        simp only at hP1
        cases e2 : seqOf a with
        | none => rw [e2] at hP1; exact hP1.elim
        | some xs =>
          rw [e2] at hP1
          have k2 : Hold g.T H1 ((a, v) :: (its ρ2 σ ++ τ)) := k2
          have own := items_own k2 List.mem_cons_self e2
          obtain ⟨p, rfl, hq⟩ := seq_at k2 List.mem_cons_self e2
          refine ⟨p, rfl, ?_⟩
          rw [hK]
          rcases hq with hq | hq
          · obtain ⟨vs, q1, q2, _⟩ := hq _ _ k2 List.mem_cons_self
            refine .inl ⟨⟨vs, q1⟩, hP1 (Ite g.T.K p) H1 [(a, .ref p)] _ _ (by rw [pairs_len]; exact walk_eL) (fun H l k => ?_) (fun i H x H' l b hb k y => ?_) pairs_own f2 k2⟩
            · obtain ⟨vs, q1, q2, _⟩ := hq H _ k (by simp)
              exact ⟨vs, q1, q2⟩
            · obtain ⟨_, _, _, q3⟩ := hq H _ k (by simp)
              obtain ⟨t, x', rfl, ht, rfl, y⟩ := y
              obtain ⟨c, hc, rfl⟩ := pairs_at hb
              have k5 := q3 i x' y c hc
              rw [Nat.zero_add]
              exact pair_new (k5.int (i := (i : Nat))) rfl (own c (List.mem_of_getElem? hc)) ht
          · obtain ⟨vs, q1, q2, _⟩ := hq _ _ k2 List.mem_cons_self
            refine .inr ⟨⟨vs, q1⟩, hP1 (My.IteT g.T.K p) H1 [(a, .ref p)] _ _ (by rw [pairs_len]; exact walk_eT) (fun H l k => ?_) (fun i H x H' l b hb k y => ?_) pairs_own f2 k2⟩
            · obtain ⟨vs, q1, q2, _⟩ := hq H _ k (by simp)
              exact ⟨vs, q1, q2⟩
            · obtain ⟨_, _, _, q3⟩ := hq H _ k (by simp)
              obtain ⟨t, x', rfl, ht, rfl, y⟩ := y
              obtain ⟨c, hc, rfl⟩ := pairs_at hb
              have k5 := q3 i x' y c hc
              rw [Nat.zero_add]
              exact pair_new (k5.int (i := (i : Nat))) rfl (own c (List.mem_of_getElem? hc)) ht

theorem iv_enum {elts : List Expr} {kk : Nat} (hK : X.K = g.T.K) (hg : Gl X "enumerate") (hm : X.mg "enumerate" = none) (ha : AV g X [e] fs) (hs : starEach [e] X.env = [(false, eval e X.env)] := by rfl) :
    IV g X (.Tuple elts kk tpos) (.Call (.Name "enumerate" p) [e] [] pos) (iEnumV fs) := iv_of (pi_enV hg hm ha hs) (ienum_q hK)
/-! ### zip of two -/
def zpairs : List PV → List PV → List PV
  | x :: xs, y :: ys => .tup [x, y] :: zpairs xs ys
  | _, _ => []
theorem zpairs_at : ∀ {xs ys : List PV} {i : Nat} {b : PV}, (zpairs xs ys)[i]? = some b → ∃ x y, xs[i]? = some x ∧ ys[i]? = some y ∧ b = .tup [x, y]
  | [], _, _, _, h => by simp [zpairs] at h
  | _ :: _, [], _, _, h => by simp [zpairs] at h
  | x :: xs, y :: ys, 0, b, h => by simp [zpairs] at h; exact ⟨x, y, rfl, rfl, h.symm⟩
  | x :: xs, y :: ys, i + 1, b, h => by
    obtain ⟨x', y', h1, h2, h3⟩ := zpairs_at (xs := xs) (ys := ys) (i := i) (by simpa [zpairs] using h)
    exact ⟨x', y', by simpa using h1, by simpa using h2, h3⟩
theorem zpairs_len : ∀ (xs ys : List PV), (zpairs xs ys).length = min xs.length ys.length
  | [], _ => by simp [zpairs]
  | _ :: _, [] => by simp [zpairs]
  | x :: xs, y :: ys => by simp [zpairs, zpairs_len xs ys]
theorem zpairs_own {xs ys : List PV} : ∀ b ∈ zpairs xs ys, b.own = false := fun b hb => by
  obtain ⟨i, hi⟩ := List.mem_iff_getElem?.mp hb
  obtain ⟨x, y, _, _, rfl⟩ := zpairs_at hi
  rfl
def lst2 : PV → PV → Bool
  | .lst _ _, .lst _ _ => true
  | .tup _, .tup _ => true
  | _, _ => false
def iZipV (fs : M (List Hd)) : M (List PV) := fun ρ => (fs ρ).bind fun hs ρ1 => match takes hs ρ1 with
  | some ([a, b], ρ2) => if lst2 a b = true then ofX ρ2 ((seqOf a).bind fun xs => (seqOf b).map fun ys => zpairs xs ys) else .stuck
  | _ => .stuck
theorem walk_zL {K : PySem.W.Frag} {a b : Addr} {n m : Nat} : Walk (Itz K a b) (min n m) (fun H => (∃ vs, SqL K H a vs ∧ vs.length = n) ∧ ∃ vs, SqL K H b vs ∧ vs.length = m) (fun i H v H' => ∃ T x y, v = .ref T ∧ H T = none ∧ H' = upd H T (.tup [x, y]) ∧ (∀ xs, SqL K H a xs → xs[i]? = some x) ∧ ∀ ys, SqL K H b ys → ys[i]? = some y) :=
  ⟨fun i _ hi ⟨⟨vs, q, hl⟩, ws, q2, hl2⟩ => ⟨vs, ws, vs[i]'(by omega), ws[i]'(by omega), q, q2, by simp, by simp⟩, fun _ ⟨⟨vs, q, hl⟩, ws, q2, hl2⟩ => ⟨vs, ws, q, q2, by omega⟩, fun _ _ _ _ _ _ y => y⟩
theorem walk_zT {K : PySem.W.Frag} {a b : Addr} {n m : Nat} : Walk (RZ.ItzT K a b) (min n m) (fun H => (∃ vs, SqT K H a vs ∧ vs.length = n) ∧ ∃ vs, SqT K H b vs ∧ vs.length = m) (fun i H v H' => ∃ T x y, v = .ref T ∧ H T = none ∧ H' = upd H T (.tup [x, y]) ∧ (∀ xs, SqT K H a xs → xs[i]? = some x) ∧ ∀ ys, SqT K H b ys → ys[i]? = some y) :=
  ⟨fun i _ hi ⟨⟨vs, q, hl⟩, ws, q2, hl2⟩ => ⟨vs, ws, vs[i]'(by omega), ws[i]'(by omega), q, q2, by simp, by simp⟩, fun _ ⟨⟨vs, q, hl⟩, ws, q2, hl2⟩ => ⟨vs, ws, q, q2, by omega⟩, fun _ _ _ _ _ _ y => y⟩
theorem iv_zip {elts : List Expr} {kk : Nat} (hK : X.K = g.T.K) (hg : Gl X "zip") (hm : X.mg "zip" = none) (ha : AV g X [e, e2] fs) (hs : starEach [e, e2] X.env = (false, eval e X.env) :: starEach [e2] X.env := by rfl) (hpl : (backTo pos (starEach [e2] X.env)).any (·.1) = false := by rfl) :
    IV g X (.Tuple elts kk tpos) (.Call (.Name "zip" p) [e, e2] [] pos) (iZipV fs) :=
  iv_of (RZ.pi_zipA hg hm ha hs hpl) fun σ H R ρ τ ft h hP => stepA (ε := []) ft (nilT h) hP fun hs ρ1 hP1 vs H1 f1 s1 k1 => by
    rw [List.nil_append] at k1
    cases e0 : takes hs ρ1 with
    | none => simp only [e0] at hP1; exact hP1.elim
    | some q =>
      obtain ⟨as, ρ2⟩ := q
      simp only [e0] at hP1
      obtain ⟨f2, l2, o2, k2⟩ := takes_ok f1 s1 k1 e0
      match as, l2, o2, k2, hP1 with
      | [a, b], l2, o2, k2, hP1 =>
        obtain ⟨v, w, rfl⟩ : ∃ v w, vs = [v, w] := by
          match vs, l2 with
          | [v, w], _ => exact ⟨v, w, rfl⟩
        simp only at hP1
        split at hP1
        case isFalse => exact hP1.elim
        rename_i h2
        have k2 : Hold g.T H1 ((a, v) :: (b, w) :: (its ρ2 σ ++ τ)) := k2
        cases e2 : seqOf a with
        | none => rw [e2] at hP1; exact hP1.elim
        | some xs =>
          cases e3 : seqOf b with
          | none => rw [e2, e3] at hP1; exact hP1.elim
          | some ys =>
            rw [e2, e3] at hP1
            have own1 := items_own k2 (a := a) List.mem_cons_self e2
            have own2 := items_own k2 (a := b) (v := w) (by simp) e3
            -- both are lists, or both tuples
            have cs : (∃ xs' ys', a = .tup xs' ∧ b = .tup ys') ∨ ∃ f1 xs' f2 ys', a = .lst f1 xs' ∧ b = .lst f2 ys' := by
              cases a <;> cases b <;> simp [lst2] at h2
              · exact .inl ⟨_, _, rfl, rfl⟩
              · exact .inr ⟨_, _, _, _, rfl, rfl⟩
            rcases cs with ⟨_, _, rfl, rfl⟩ | ⟨fl1, _, fl2, _, rfl, rfl⟩
            · cases e2; cases e3
              obtain ⟨p, vs, rfl, hs1, hl1, _⟩ := k2.g_tup (v := v) List.mem_cons_self
              obtain ⟨p2, ws, rfl, hs2, hl2, _⟩ := k2.g_tup (v := w) (List.mem_cons_of_mem _ List.mem_cons_self)
              refine ⟨p, p2, vs, ws, rfl, .inr ⟨by rw [hK]; exact hs1, by rw [hK]; exact hs2, ?_⟩⟩
              rw [hK]
              refine hP1 (RZ.ItzT g.T.K p p2) H1 [(_, .ref p), (_, .ref p2)] _ _ (by rw [zpairs_len]; exact walk_zT) (fun H l k => ?_) (fun i H x H' l c hc k y => ?_) zpairs_own f2 k2
              · obtain ⟨vs, q1, q2, _⟩ := tup_at H _ k (xs := xs) (p := p) (by simp)
                obtain ⟨ws, q3, q4, _⟩ := tup_at H _ k (xs := ys) (p := p2) (by simp)
                exact ⟨⟨vs, q1, q2⟩, ws, q3, q4⟩
              · obtain ⟨t, x', y', rfl, ht, rfl, y1, y2⟩ := y
                obtain ⟨cx, cy, hcx, hcy, rfl⟩ := zpairs_at hc
                obtain ⟨_, _, _, q3⟩ := tup_at H _ k (xs := ys) (p := p2) (by simp)
                have k5 := q3 i y' y2 cy hcy
                obtain ⟨_, _, _, q4⟩ := tup_at H _ k5 (xs := xs) (p := p) (by simp)
                exact pair_new (q4 i x' y1 cx hcx) (own1 cx (List.mem_of_getElem? hcx)) (own2 cy (List.mem_of_getElem? hcy)) ht
            · cases e2; cases e3
              obtain ⟨p, vs, rfl, hs1, hl1, _⟩ := k2.g_lst (v := v) List.mem_cons_self
              obtain ⟨p2, ws, rfl, hs2, hl2, _⟩ := k2.g_lst (v := w) (List.mem_cons_of_mem _ List.mem_cons_self)
              refine ⟨p, p2, vs, ws, rfl, .inl ⟨SqL.of hs1, SqL.of hs2, ?_⟩⟩
              rw [hK]
              refine hP1 (Itz g.T.K p p2) H1 [(_, .ref p), (_, .ref p2)] _ _ (by rw [zpairs_len]; exact walk_zL) (fun H l k => ?_) (fun i H x H' l c hc k y => ?_) zpairs_own f2 k2
              · obtain ⟨vs, q1, q2, _⟩ := lst_at H _ k (fl := fl1) (xs := xs) (p := p) (by simp)
                obtain ⟨ws, q3, q4, _⟩ := lst_at H _ k (fl := fl2) (xs := ys) (p := p2) (by simp)
                exact ⟨⟨vs, q1, q2⟩, ws, q3, q4⟩
              · obtain ⟨t, x', y', rfl, ht, rfl, y1, y2⟩ := y
                obtain ⟨cx, cy, hcx, hcy, rfl⟩ := zpairs_at hc
                obtain ⟨_, _, _, q3⟩ := lst_at H _ k (fl := fl2) (xs := ys) (p := p2) (by simp)
                have k5 := q3 i y' y2 cy hcy
                obtain ⟨_, _, _, q4⟩ := lst_at H _ k5 (fl := fl1) (xs := xs) (p := p) (by simp)
                exact pair_new (q4 i x' y1 cx hcx) (own1 cx (List.mem_of_getElem? hcx)) (own2 cy (List.mem_of_getElem? hcy)) ht
end
end VL

set_option Elab.async false
set_option linter.all false
set_option maxRecDepth 100000
/-! Caught errors, dicts of the module. -/
namespace VL
open PySem PySem.Spec PyProof.Rows L2

/-! ### a dict of the module, str keys -/
def eKd (tab : List (Str × PV)) (fk : M Hd) : M Hd := fun ρ => (fk ρ).bind fun h ρ1 => match hv ρ1 h with
  | .str z => (match tab.lookup z with
    | some a => .ok (.tm a) ρ1
    | none => .stuck)
  | _ => .stuck
/-- a value of the written part -/
def KVal (T : Tb) (a : PV) (v : V) : Prop := a.own = false ∧ ∀ F : Hp, Rep T F a v
def KD (T : Tb) (w : World) (mg : Str → Option Value) (x : Str) (tab : List (Str × PV)) : Prop :=
  ∃ A, mg x = some (.ref A) ∧ ∀ z a, tab.lookup z = some a → ∃ v, KVal T a v ∧ KDct T.K w A z v
section
variable {g : G} {X : Cx} {x : Str} {p pos : Pos} {k : Expr} {fk : M Hd} {tab : List (Str × PV)}
theorem ev_kd (hK : X.K = g.T.K) (hg : Gl X x) (hd : KD g.T X.w X.mg x tab) (hk : EV g X k fk) (hpl : PlainIx k := by exact fun _ _ => rfl) (hdb : (x == ("__debug__" : Str)) = false := by decide) :
    EV g X (.Subscript (.Name x p) k pos) (eKd tab fk) := by
  obtain ⟨A, e1, e2⟩ := hd
  refine ev_of (pe_ix ix_kdict (pe_glob (v := .ref A) hg e1 rfl hdb) hk hpl) fun σ H Q ρ τ f h hP => ?_
  refine stepE (ε := []) f (nilT h) hP fun h1 ρ1 hP1 v H1 f1 s1 k1 => ?_
  rw [List.nil_append] at k1
  split at hP1
  · rename_i z ez
    split at hP1
    · rename_i a ea
      obtain ⟨u, ⟨o1, o2⟩, o3⟩ := e2 z a ea
      have m := mem_hv (τ := τ) f1 s1
      rw [ez] at m
      have ev := k1.g_str m
      refine ⟨A, z, u, rfl, ev, by rw [hK]; exact o3, ?_⟩
      have k2 : Hold g.T H1 (its ρ1 σ ++ τ) := k1.right
      exact hP1 u H1 f1 slot_tm (k2.add o1 fun F _ _ => o2 F)
    · exact hP1.elim
  · exact hP1.elim
end

/-! ### isinstance of a caught error -/
def rIsV (K : PySem.W.Frag) (D a : Addr) (d : Option Addr) : List V → Hp → VK → Prop := fun xs H Q => ∃ (c : V) (b : Bool), xs = [.ref a, c] ∧ (∀ dd, d = some dd → ∃ fs, H dd = some (.xd fs)) ∧
  ((∃ cv, (∀ u, RelV c u → u = cv) ∧ PySem.W.kitOne K (.ref D) cv = some b) ∨ ∃ (tp : Addr) (cs : List Addr), c = .ref tp ∧ SqT K H tp (cs.map V.ref) ∧ PySem.W.kitAny K (.ref D) (cs.map Value.ref) = some b) ∧ Q (.bl b) H
theorem call_isV {X : Cx} {a D : Addr} {oe : Obj} {d : Option Addr} {pn : List (Addr × Obj)} (C : ExcC X.K D) (hz : Zc (.ref D) d oe) (hf : ∃ vs, oe.data = .fields vs) : CallR (X.suite a ((a, oe) :: pn)) (.builtin "isinstance") (rIsV X.K D a d) := by
  intro pins s σ H xs us Q I r h
  obtain ⟨c, b, rfl, edd, hc, q⟩ := h
  have hcl : (PySem.W.clsIn X.K D).isSome = true := by
    have := C.hd
    obtain ⟨cd, h1, _⟩ := PySem.W.any_some this
    rw [h1]; rfl
  have Z := fun od => PySem.W.kitx_exc (x := a) (ox := oe) (od := od) hcl C.hg C.hk C.hs C.ha C.hn C.ht C.hm
  cases r with
  | cons rx rr =>
    cases rr with
    | cons rt rr =>
      cases rr
      cases rx
      obtain ⟨hget, _⟩ := I.pin (a, oe) (List.mem_append.mpr (.inl List.mem_cons_self))
      obtain ⟨vs, hv⟩ := hf
      have J : ∃ od, PySem.W.InstAt s.heap a oe D od := by
        cases d with
        | none =>
          refine ⟨none, ?_⟩
          obtain ⟨oc, od, oda, osl⟩ := oe
          obtain ⟨h1, h2⟩ := hz
          dsimp only at h1 h2 hv
          subst h1 h2 hv
          exact ⟨hget, rfl, rfl, trivial⟩
        | some dd =>
          obtain ⟨fs, edd⟩ := edd dd rfl
          have hx : ObjOk _ _ H s.heap dd (.xd fs) := I.hok dd _ edd
          obtain ⟨mA, hns, _⟩ := hx
          obtain ⟨od, ho, _⟩ := lookIn_ns hns
          exact ⟨some od, hget, hz.1, by unfold PySem.W.notCls; rw [hv] <;> rfl, by rw [hz.2]; exact ho⟩
      obtain ⟨od, J⟩ := J
      rcases hc with ⟨cv, hcv, e⟩ | ⟨tp, cs, rfl, htp, e⟩
      · have ec := hcv _ rt
        subst ec
        exact PySem.W.kia_one (Z od) I.kIn J e (fun z => nomatch z) fun tk => ⟨.bl b, H, I.kept (t' := tk) fun _ _ z => z, rfl, q⟩
      · cases rt
        obtain ⟨its, rv, p, hz⟩ := I.tuple htp
        have p : s.heap.IsTuple tp its.toArray := p
        have ev : its = cs.map Value.ref := My.refs_of rv
        obtain ⟨o, ho1, ho2, n, ho3⟩ := p
        obtain ⟨oc, od', oda, osl⟩ := o
        dsimp only at ho2 ho3
        subst ho2 ho3
        subst ev
        exact PySem.W.kia_tup (Z od) I.kIn J ho1 e (fun z => nomatch z) fun tk => ⟨.bl b, H, I.kept (t' := tk) fun _ _ z => z, rfl, q⟩
/-- what is known of the error classes -/
structure ErrF (T : Tb) (known : List String) (fl : List Str) (kt : String → String → Option Bool) (ft : String → Str → Option Nat) : Prop where
  ex : ∀ c, c ∈ known → ExcC T.K (T.ca c) ∧ XfC T.K (T.ca c)
  kt : ∀ c n b, kt c n = some b → PySem.W.kitOne T.K (.ref (T.ca c)) (if n = "ValueError" then .type "ValueError" else .ref (T.ca n)) = some b
  ft : ∀ c f i, ft c f = some i → (T.flds c)[i]? = some f ∧ (T.flds c).Nodup
  no : ∀ c, c ∈ known → ∀ f, f ∈ fl → PySem.W.findIn T.K (.ref (T.ca c)) f = some none
def clsNames : List PV → Option (List String)
  | [] => some []
  | .cls n :: r => match clsNames r with
    | some ns => if n = "ValueError" then none else some (n :: ns)
    | none => none
  | _ :: _ => none
def ktAny (kt : String → String → Option Bool) (c : String) : List String → Option Bool
  | [] => some false
  | n :: r => match kt c n with
    | some true => some true
    | some false => ktAny kt c r
    | none => none
def isK (kt : String → String → Option Bool) (c : String) : PV → Option Bool
  | .cls n => if n = "ValueError" then none else kt c n
  | .ty n => if n = "ValueError" then kt c n else none
  | .tup ys => match clsNames ys with
    | some ns => ktAny kt c ns
    | none => none
  | _ => none
/-- the error in slot i is of class c, its dict at d -/
def isE (i : Nat) (c : String) (d : Option Addr) (ρ : List PV) : Hd → Bool
  | .sl j => j == i && (match nth ρ i with
    | .err d' c' _ => decide (d' = d) && c' == c
    | _ => false)
  | .tm _ => false
def eIsE (kt : String → String → Option Bool) (i : Nat) (c : String) (d : Option Addr) (fs : M (List Hd)) : M Hd := fun ρ => (fs ρ).bind fun hs ρ1 => match hs with
  | [h1, h2] => if isE i c d ρ1 h1 = true then (match isK kt c (hv ρ1 h2) with
    | some b => .ok (.tm (.bl b)) ρ1
    | none => .stuck) else .stuck
  | _ => .stuck
def eFE (ft : String → Str → Option Nat) (i : Nat) (c : String) (d : Option Addr) (f : Str) (fo : M Hd) : M Hd := fun ρ => (fo ρ).bind fun h ρ1 => if isE i c d ρ1 h = true then (match nth ρ1 i, ft c f with
  | .err _ _ xs, some n => (match xs[n]? with
    | some a => .ok (.tm a) ρ1
    | none => .stuck)
  | _, _ => .stuck) else .stuck
section
variable {T : Tb} {H : Hp} {s0 : L2.St} {σ : L2.St} {ρ : List PV} {τ : Its} {known : List String} {fl : List Str} {kt : String → String → Option Bool} {ft : String → Str → Option Nat}
theorem isE_inv {i : Nat} {c : String} {d : Option Addr} {h : Hd} (e : isE i c d ρ h = true) : h = .sl i ∧ ∃ xs, nth ρ i = .err d c xs := by
  cases h with
  | tm a => cases e
  | sl j =>
    simp only [isE, Bool.and_eq_true, beq_iff_eq] at e
    obtain ⟨rfl, e⟩ := e
    refine ⟨rfl, ?_⟩
    split at e
    · rename_i d' c' xs eq
      simp only [Bool.and_eq_true, decide_eq_true_eq, beq_iff_eq] at e
      obtain ⟨rfl, rfl⟩ := e
      exact ⟨xs, eq⟩
    · cases e
theorem names_of {F : Hp} : ∀ {ys : List PV} {vs : List V} {ns : List String}, Reps T F ys vs → clsNames ys = some ns → vs = (ns.map T.ca).map V.ref ∧ ∀ n ∈ ns, n ≠ "ValueError"
  | [], _, ns, r, e => by
    simp only [Reps] at r
    cases e
    exact ⟨r, fun _ h => nomatch h⟩
  | y :: ys, _, ns, r, e => by
    obtain ⟨v, vs', rfl, r1, _, r2⟩ := r.inv
    cases y <;> simp only [clsNames] at e <;> try cases e
    rename_i n
    cases e1 : clsNames ys with
    | none => rw [e1] at e; cases e
    | some ms =>
      rw [e1] at e
      simp only at e
      split at e
      · cases e
      · rename_i hn
        cases e
        obtain ⟨q1, q2⟩ := names_of r2 e1
        simp only [Rep] at r1
        refine ⟨by rw [r1, q1]; rfl, fun m hm => ?_⟩
        rcases List.mem_cons.mp hm with rfl | hm
        · exact hn
        · exact q2 m hm
theorem ktAny_ok (E : ErrF T known fl kt ft) {c : String} : ∀ {ns : List String} {b : Bool}, (∀ n ∈ ns, n ≠ "ValueError") → ktAny kt c ns = some b → PySem.W.kitAny T.K (.ref (T.ca c)) ((ns.map T.ca).map Value.ref) = some b
  | [], b, _, e => by cases e; rfl
  | n :: ns, b, hn, e => by
    simp only [ktAny] at e
    simp only [List.map_cons, PySem.W.kitAny]
    cases e1 : kt c n with
    | none => rw [e1] at e; cases e
    | some b1 =>
      rw [e1] at e
      have := E.kt c n b1 e1
      rw [if_neg (hn n List.mem_cons_self)] at this
      rw [this]
      cases b1 with
      | true => cases e; rfl
      | false => exact ktAny_ok E (fun m hm => hn m (List.mem_cons_of_mem _ hm)) e
end
section
variable {g : G} {X : Cx} {a : Addr} {oe : Obj} {d : Option Addr} {pn : List (Addr × Obj)} {i : Nat} {c : String} {known : List String} {fl : List Str} {kt : String → String → Option Bool} {ft : String → Str → Option Nat} {fs : M (List Hd)} {fo : M Hd} {p pos : Pos} {e o : Expr} {es : List Expr} {f : Str}
theorem err_at {σ : L2.St} {H : Hp} {ρ : List PV} {τ : Its} {xs : List PV} (hs0 : g.s0[i]? = some (some (.ref a))) (ft' : Fits g.s0 ρ σ) (k : Hold g.T H (its ρ σ ++ τ)) (en : nth ρ i = .err d c xs) :
    σ[i]? = some (some (.ref a)) ∧ ∃ F vs, Same F H ∧ (∀ b v, b.own = false → Rep g.T F b v → Hold g.T H ((b, v) :: (its ρ σ ++ τ))) ∧ XAt g.T F c d vs ∧ Reps g.T F xs vs := by
  have hio : (nth ρ i).isIo = true := by rw [en]; rfl
  have e1 : σ[i]? = some (some (.ref a)) := by rw [ft'.io i hio]; exact hs0
  refine ⟨e1, ?_⟩
  obtain ⟨F, s, o, n, dd⟩ := k
  have m : (nth ρ i, V.ref a) ∈ its ρ σ ++ τ := List.mem_append_left _ (its_mem ft'.len e1)
  have r := o _ m
  rw [en] at r
  obtain ⟨p, vs, _, h1, h2⟩ := r
  refine ⟨F, vs, s, fun b v ob rb => ⟨F, s, fun x hx => ?_, by rw [fpOf_fz ob]; exact n, by rw [fpOf_fz ob]; exact dd⟩, h1, h2⟩
  rcases List.mem_cons.mp hx with rfl | hx
  · exact (Own.fz ob).mpr rb
  · exact o x hx
theorem ev_isE (hK : X.K = g.T.K) (E : ErrF g.T known fl kt ft) (hc : c ∈ known) (hz : Zc (.ref (g.T.ca c)) d oe) (hf : ∃ vs, oe.data = .fields vs) (hs0 : g.s0[i]? = some (some (.ref a)))
    (hg : Gl X "isinstance") (hm : X.mg "isinstance" = none) (ha : AV g (X.suite a ((a, oe) :: pn)) (e :: es) fs)
    (h1 : starEach (e :: es) X.env = (false, eval e X.env) :: starEach es X.env := by rfl) (h2 : (backTo pos (starEach es X.env)).any (·.1) = false := by rfl) :
    EV g (X.suite a ((a, oe) :: pn)) (.Call (.Name "isinstance" p) (e :: es) [] pos) (eIsE kt i c d fs) := by
  refine ev_of (pe_callB (call_isV (by rw [hK]; exact (E.ex c hc).1) hz hf) hg hm boot_isinstance ha (by decide) (by decide) h1 h2) fun σ H Q ρ τ f h hP => stepA (ε := []) f (nilT h) hP fun hs ρ1 hP1 vs H1 f1 s1 k1 => ?_
  rw [List.nil_append] at k1
  match hs, s1, hP1, k1 with
  | [x1, x2], s1, hP1, k1 =>
    simp only at hP1
    split at hP1
    · rename_i he
      obtain ⟨rfl, xs, en⟩ := isE_inv he
      cases eb : isK kt c (hv ρ1 x2) with
      | none => rw [eb] at hP1; exact hP1.elim
      | some b =>
        rw [eb] at hP1
        obtain ⟨v1, vs1, rfl, t1, v2, vs2, rfl, t2, t3⟩ := s1
        have t3 : vs2 = [] := t3
        subst t3
        obtain ⟨e1, F, ws, sm, ow, hx, hr⟩ := err_at hs0 f1 (k1.right) en
        have ev1 : v1 = .ref a := by have := t1 i rfl; rw [e1] at this; cases this; rfl
        subst ev1
        have m2 : (hv ρ1 x2, v2) ∈ hits [.sl i, x2] [.ref a, v2] ++ (its ρ1 σ ++ τ) := by
          have := mem_hv (τ := τ) f1 t2
          rcases List.mem_append.mp this with q | q
          · exact List.mem_append_left _ (by simp only [hits, hit, List.nil_append, List.append_nil]; exact q)
          · exact List.mem_append_right _ q
        refine ⟨v2, b, rfl, fun dd ed => ?_, ?_, hP1 (.bl b) H1 f1 slot_tm (k1.right.bl)⟩
        · subst ed; exact ⟨_, sm _ _ hx.1⟩
        · show _ ∨ _
          unfold isK at eb
          split at eb
          · rename_i n hn
            split at eb
            · cases eb
            · rename_i nv
              rw [hn] at m2
              have ev2 : v2 = .ref (g.T.ca n) := by obtain ⟨F, s, r, _⟩ := k1.get m2; exact r
              subst ev2
              have := E.kt c n b eb
              rw [if_neg nv] at this
              exact .inl ⟨.ref (g.T.ca n), fun u r => r, by rw [hK]; exact this⟩
          · rename_i n hn
            split at eb
            · rename_i nv
              subst nv
              rw [hn] at m2
              have ev2 : v2 = .ty "ValueError" := by obtain ⟨F, s, r, _⟩ := k1.get m2; exact r
              subst ev2
              have := E.kt c "ValueError" b eb
              rw [if_pos rfl] at this
              exact .inl ⟨.type "ValueError", fun u r => r, by rw [hK]; exact this⟩
            · cases eb
          · rename_i ys hn
            rw [hn] at m2
            obtain ⟨tp, us, rfl, sq, _, F2, _, rr⟩ := k1.g_tup m2
            split at eb
            · rename_i ns en2
              obtain ⟨q1, q2⟩ := names_of rr en2
              subst q1
              exact .inr ⟨tp, ns.map g.T.ca, rfl, by rw [hK]; exact sq, by rw [hK]; exact ktAny_ok E q2 eb⟩
            · cases eb
          · cases eb
    · exact hP1.elim
theorem ev_fE (hK : X.K = g.T.K) (E : ErrF g.T known fl kt ft) (hc : c ∈ known) (hz : Zc (.ref (g.T.ca c)) d oe) (hf : ∃ vs, oe.data = .fields vs) (hs0 : g.s0[i]? = some (some (.ref a))) (hno : f ∈ fl)
    (ho : EV g (X.suite a ((a, oe) :: pn)) o fo) (hb : attributeBase o f X.env (eval o X.env) = eval o X.env := by rfl) :
    EV g (X.suite a ((a, oe) :: pn)) (.Attribute o f pos) (eFE ft i c d f fo) := by
  refine ev_of (pe_xf (by rw [hK]; exact (E.ex c hc).2) (by rw [hK]; exact E.no c hc f hno) hz hf ho hb) fun σ H Q ρ τ ft' h hP => stepE (ε := []) ft' (nilT h) hP fun h1 ρ1 hP1 v H1 f1 s1 k1 => ?_
  rw [List.nil_append] at k1
  split at hP1
  · rename_i he
    obtain ⟨rfl, xs, en⟩ := isE_inv he
    rw [en] at hP1
    split at hP1
    · rename_i xs' n e1 e2
      cases e1
      split at hP1
      · rename_i b eb
        obtain ⟨e3, F, ws, sm, ow, hx, hr⟩ := err_at hs0 f1 k1.right en
        have ev1 : v = .ref a := by have := s1 i rfl; rw [e3] at this; cases this; rfl
        subst ev1
        obtain ⟨q1, q2⟩ := E.ft c f n e2
        obtain ⟨u, hu, ru, ou⟩ := hr.at eb
        cases d with
        | none =>
          have hx : ws = [] := hx
          subst hx
          simp at hu
        | some dd =>
          exact ⟨rfl, rfl, dd, _, u, rfl, sm _ _ hx.1, zip_lookup q2 q1 hu, hP1 u H1 f1 slot_tm (ow b u ou ru)⟩
      · exact hP1.elim
    · exact hP1.elim
  · exact hP1.elim
end
end VL

set_option Elab.async false
set_option linter.all false
set_option maxRecDepth 100000
/-! try: .. except C as e: .. by values. -/
namespace VL
open PySem PySem.Spec PyProof.Rows L2

def outSlot (i : Nat) : R Fw → R Fw
  | .ok a ρ => .ok a (ρ.set i .emp)
  | _ => .stuck
open Classical in
noncomputable def pick (xs : List PV) (f : Option Addr → R Fw) : R Fw := if (∀ d, (d = none → xs = []) → f d = f (some 0)) then f (some 0) else .stuck
theorem pick_eq {xs : List PV} {f : Option Addr → R Fw} {r : R Fw} (h : ∀ d, (d = none → xs = []) → f d = r) : pick xs f = r := by
  have h0 := h (some 0) (fun z => nomatch z)
  unfold pick
  rw [if_pos fun d hd => by rw [h d hd, h0], h0]
theorem pick_or {xs : List PV} (f : Option Addr → R Fw) : pick xs f = .stuck ∨ ∀ d, (d = none → xs = []) → f d = pick xs f := by
  unfold pick
  split
  · rename_i h
    exact .inr h
  · exact .inl rfl
abbrev HdV := (String → Option Bool) × Nat × (String → Option Addr → M Fw)
noncomputable def sHds : List HdV → String → List PV → M Fw
  | [], c, xs, ρ => .exc c xs ρ
  | (kin, i, su) :: r, c, xs, ρ => match kin c with
    | none => .stuck
    | some false => sHds r c xs ρ
    | some true => if ((nth ρ i).isIo || xs.any PV.own) = true then .stuck else pick xs fun d => outSlot i (su c d (ρ.set i (.err d c xs)))
noncomputable def sTry (fb : M Fw) (hds : List HdV) : M Fw := fun ρ => match fb ρ with
  | .exc c xs ρ1 => sHds hds c xs ρ1
  | r => r
section
variable {T : Tb} {H : Hp} {s0 : L2.St} {σ : L2.St} {ρ : List PV} {τ l : Its} {i : Nat} {a : Addr} {d : Option Addr} {c : String} {xs : List PV} {vs : List V}
theorem fp_notxd {F : Hp} {p : Addr} {fs : List (Str × V)} (ow : ∀ x ∈ l, Own T H F x.1 x.2) (hp : H p = some (.xd fs)) : p ∉ fpOf l := fun hm => by
  obtain ⟨c, hc, hcm⟩ := mem_fpOf.mp hm
  have := ow _ hcm
  unfold Own at this
  rw [if_pos (PV.cell_own hc)] at this
  cases c <;> simp [PV.cell, PV.isErr, PV.own, PV.fl] at hc <;> simp [RepAt] at this
  · obtain ⟨_, k, _⟩ := this; rw [hp] at k; cases k
  · obtain ⟨_, k, _⟩ := this; rw [hp] at k; cases k
  · obtain ⟨_, k, _⟩ := this; rw [hp] at k; cases k
  · obtain ⟨_, _, k, _⟩ := this; rw [hp] at k; cases k
theorem catch_hold (h : Hold T H (xs.zip vs ++ l)) (hx : XAt T H c d vs) (hl : vs.length = xs.length) (ho : xs.any PV.own = false) : Hold T H ((.err d c xs, .ref a) :: l) := by
  obtain ⟨F, s, ow, n, dj⟩ := h
  have r : Reps T F xs vs := .of_at hl fun j y v hy hv => by
    have m : (y, v) ∈ xs.zip vs ++ l := List.mem_append_left _ (List.mem_of_getElem? (i := j) (by rw [List.getElem?_zip_eq_some]; exact ⟨hy, hv⟩))
    have oy : y.own = false := by
      have := List.any_eq_false.mp ho y (List.mem_of_getElem? hy)
      simpa using this
    exact ⟨(Own.fz oy).mp (ow _ m), oy⟩
  have ow2 : ∀ x ∈ l, Own T H F x.1 x.2 := fun x hx => ow x (List.mem_append_right _ hx)
  have n2 : (fpOf l).Nodup := by rw [fpOf_append] at n; exact (List.nodup_append.mp n).2.1
  have d2 : ∀ p ∈ fpOf l, F p = none := fun p hp => dj p (by rw [fpOf_append]; exact List.mem_append_right _ hp)
  cases d with
  | none =>
    refine ⟨F, s, fun x hx' => ?_, by rw [fpOf_err]; exact n2, by rw [fpOf_err]; exact d2⟩
    rcases List.mem_cons.mp hx' with rfl | hx'
    · exact ⟨a, vs, rfl, hx, r⟩
    · exact ow2 x hx'
  | some p =>
    obtain ⟨hp, hle⟩ := hx
    have ef : Same F (upd F p (.xd ((T.flds c).zip vs))) := fun b u k => by
      by_cases eb : b = p
      · subst eb
        have := s _ _ k
        rw [hp] at this; cases this
        rw [upd_same]
      · rw [upd_ne eb]; exact k
    refine ⟨upd F p (.xd ((T.flds c).zip vs)), fun b u k => ?_, fun x hx' => ?_, by rw [fpOf_err]; exact n2, ?_⟩
    · by_cases eb : b = p
      · subst eb; rw [upd_same] at k; cases k; exact hp
      · rw [upd_ne eb] at k; exact s _ _ k
    · rcases List.mem_cons.mp hx' with rfl | hx'
      · exact ⟨a, vs, rfl, ⟨upd_same, hle⟩, r.mono ef⟩
      · exact (ow2 x hx').mono (Same.refl H) ef
    · rw [fpOf_err]
      intro q hq
      have := fp_notxd ow2 hp
      rw [upd_ne (show q ≠ p from fun z => this (by rw [← z]; exact hq))]
      exact d2 q hq
theorem in_fits {v : V} {b : PV} (f : Fits s0 ρ σ) (hi : (nth ρ i).isIo = false) (hlt : i < s0.length) : Fits (s0.set i (some v)) (ρ.set i b) (σ.set i (some v)) := by
  refine ⟨by simp [f.len], fun j hj => ?_, fun j hj => ?_⟩
  · by_cases e : i = j
    · subst e
      by_cases l : i < ρ.length
      · exact ⟨v, by rw [List.getElem?_set_self (by rw [f.len]; exact l)]⟩
      · rw [nth_out (by simp; omega)] at hj; cases hj
    · rw [nth_set_ne e] at hj
      rw [List.getElem?_set_ne e]
      exact f.has j hj
  · by_cases e : i = j
    · subst e
      by_cases l : i < ρ.length
      · rw [List.getElem?_set_self (by rw [f.len]; exact l), List.getElem?_set_self hlt]
      · rw [nth_out (by simp; omega)] at hj; cases hj
    · rw [nth_set_ne e] at hj
      rw [List.getElem?_set_ne e, List.getElem?_set_ne e]
      exact f.io j hj
theorem out_fits {v : Option V} {z : Option V} (f : Fits (s0.set i v) ρ σ) : Fits s0 (ρ.set i .emp) (σ.set i z) := by
  refine ⟨by simp [f.len], fun j hj => ?_, fun j hj => ?_⟩
  all_goals
    by_cases e : i = j
    · subst e
      by_cases l : i < ρ.length
      · rw [nth_set_same l] at hj; cases hj
      · rw [nth_out (by simp; omega)] at hj; cases hj
    · rw [nth_set_ne e] at hj
      rw [List.getElem?_set_ne e]
      first
        | exact f.has j hj
        | (have := f.io j hj; rw [List.getElem?_set_ne e] at this; exact this)
theorem its_setO : ∀ {ρ : List PV} {σ : L2.St} {i : Nat} {a : PV} {z : Option V}, σ.length = ρ.length → i < ρ.length → ∃ A B, its ρ σ = A ++ (nth ρ i, (σ[i]?.getD none).getD .non) :: B ∧ its (ρ.set i a) (σ.set i z) = A ++ (a, z.getD .non) :: B
  | [], _, _, _, _, _, h => by simp at h
  | _ :: _, [], _, _, _, h, _ => by simp at h
  | x :: ρ, s :: σ, 0, a, v, h, _ => ⟨[], its ρ σ, by simp [its], by simp [its]⟩
  | x :: ρ, s :: σ, i + 1, a, v, h, hi => by
    obtain ⟨A, B, e1, e2⟩ := its_setO (ρ := ρ) (σ := σ) (i := i) (a := a) (z := v) (by simpa using h) (by simpa using hi)
    refine ⟨(x, s.getD .non) :: A, B, ?_, ?_⟩
    · simp only [its, nth_succ, List.cons_append, List.getElem?_cons_succ]; rw [e1]
    · simp only [List.set_cons_succ, its, List.cons_append]; rw [e2]
theorem out_hold {z : Option V} (hlen : σ.length = ρ.length) (h : Hold T H (its ρ σ ++ l)) : Hold T H (its (ρ.set i .emp) (σ.set i z) ++ l) := by
  by_cases hi : i < ρ.length
  · obtain ⟨A, B, e1, e2⟩ := its_setO (a := .emp) (z := z) hlen hi
    rw [e2]
    rw [e1] at h
    have h1 : Hold T H ((nth ρ i, (σ[i]?.getD none).getD .non) :: (A ++ B ++ l)) := h.perm (permc fun _ x => by simp only [List.count_append, List.count_cons]; omega)
    have h2 : Hold T H ((.emp, z.getD .non) :: (A ++ B ++ l)) := h1.tail.emp
    exact h2.perm (permc fun _ x => by simp only [List.count_append, List.count_cons]; omega)
  · rw [List.set_eq_of_length_le (by omega), List.set_eq_of_length_le (by omega)]
    exact h
end
section
variable {g : G} {X : Cx} {known : List String}
/-- the clauses by their mirrors -/
inductive HdsV (g : G) (X : Cx) (known : List String) : List ExceptHandler → List HdV → Prop
  | nil : HdsV g X known [] []
  | cons {x n : Str} {cv : Value} {i : Nat} {kin : String → Option Bool} {su : String → Option Addr → M Fw} {b₀ : Stmt} {suite : List Stmt} {np pos' : Pos} {hds : List ExceptHandler} {l : List HdV} (hc : Names X x cv)
      (hk : ∀ c b, kin c = some b → PySem.W.exmOne X.K (.ref (g.T.ca c)) cv = some b) (hkn : ∀ c, kin c = some true → c ∈ known) (hlt : i < g.s0.length)
      (hi : X.N[i]? = some n) (hln : X.env.kindOf n = some .local)
      (hsu : ∀ (c : String) (a : Addr) (oe : Obj) (d : Option Addr) (pn : List (Addr × Obj)), c ∈ known → (g.s0.set i (some (.ref a)))[i]? = some (some (.ref a)) → Zc (.ref (g.T.ca c)) d oe → (∃ vs, oe.data = .fields vs) →
        BV ⟨g.T, g.s0.set i (some (.ref a)), fun _ _ _ _ => False⟩ (X.suite a ((a, oe) :: pn)) (b₀ :: suite) (su c d)) (r : HdsV g X known hds l) :
      HdsV g X known (.ExceptHandler (some (.Name x np)) (some n) (b₀ :: suite) pos' :: hds) ((kin, i, su) :: l)
/-- what the library's clauses are handed -/
def tsV (g : G) (i : Nat) (kin : String → Option Bool) (su : String → Option Addr → M Fw) : Addr → Value → Option Addr → TS := fun a cls d D σ H =>
  ∃ c, cls = .ref (g.T.ca c) ∧ kin c = some true ∧ trS ⟨g.T, g.s0.set i (some (.ref a)), fun _ _ _ _ => False⟩ (su c d) D σ H
theorem hds_as {hds : List ExceptHandler} {l : List HdV} (h : HdsV g X known hds l) : ∃ l' : List (Value × Nat × (Addr → Value → Option Addr → TS)), My.HdsAs X hds l' ∧
    ∀ (τ : Its) (D : Ends) (c : String) (xs ρ : List PV) (d : Option Addr) (vs : List V) (σ : L2.St) (H : Hp), PS1 g τ D (sHds l c xs ρ) → Fits g.s0 ρ σ → XAt g.T H c d vs → vs.length = xs.length → Hold g.T H (xs.zip vs ++ (its ρ σ ++ τ)) →
      My.wAsM X.K g.W D l' (.ref (g.T.ca c)) d σ H := by
  induction h with
  | nil => exact ⟨[], .nil, fun τ D c xs ρ d vs σ H hP f hx hl k => hP d vs σ H f hx hl k⟩
  | @cons x n cv i kin su b₀ suite np pos' hds l hc hk hkn hlt hi hln hsu r ih =>
    obtain ⟨l', h1, h2⟩ := ih
    refine ⟨(cv, i, tsV g i kin su) :: l', .cons hc hi hln (fun a oe cls d pn hz hf => ⟨fun pins s σ H D I ⟨c, e, kc, q⟩ => ?_⟩) h1, fun τ D c xs ρ d vs σ H hP f hx hl k => ?_⟩
    · subst e
      exact (hsu c a oe d pn (hkn c kc) (by rw [List.getElem?_set_self hlt]) hz hf).run pins s σ H D I q
    · simp only [sHds] at hP
      cases ek : kin c with
      | none => rw [ek] at hP; exact hP.elim
      | some b =>
        refine ⟨b, hk c b ek, fun hb a ha => ?_, fun hb => ?_⟩
        · subst hb
          rw [ek] at hP
          simp only at hP
          split at hP
          · exact hP.elim
          · rename_i hno
            simp only [Bool.or_eq_true, not_or, Bool.not_eq_true] at hno
            obtain ⟨hio, hfz⟩ := hno
            rcases pick_or (xs := xs) (fun d => outSlot i (su c d (ρ.set i (.err d c xs)))) with e | e
            · rw [e] at hP; exact hP.elim
            · have e := e d fun hd => by
                subst hd
                have hx : vs = [] := hx
                subst hx
                exact List.length_eq_zero_iff.mp hl.symm
              rw [← e] at hP
              have k1 : Hold g.T H ((.err d c xs, .ref a) :: (its ρ σ ++ τ)) := catch_hold k hx hl hfz
              refine ⟨c, rfl, ek, ρ.set i (.err d c xs), τ, in_fits f hio hlt, ?_, ?_⟩
              · by_cases hlt2 : i < ρ.length
                · exact k1.slot f hlt2
                · have q1 : ρ.set i (PV.err d c xs) = ρ := List.set_eq_of_length_le (by omega)
                  have q2 : σ.set i (some (V.ref a)) = σ := List.set_eq_of_length_le (by rw [f.len]; omega)
                  show Hold g.T H (its (ρ.set i (.err d c xs)) (σ.set i (some (.ref a))) ++ τ)
                  rw [q1, q2]
                  exact k1.tail
              · cases es : su c d (ρ.set i (.err d c xs)) with
                | ok fw ρ' =>
                  rw [es] at hP
                  cases fw with
                  | nx => exact fun σ' H' f' k' => hP _ H' (out_fits f') (out_hold f'.len k')
                  | bk => exact fun σ' H' f' k' => hP _ H' (out_fits f') (out_hold f'.len k')
                  | ct => exact fun σ' H' f' k' => hP _ H' (out_fits f') (out_hold f'.len k')
                  | rt b =>
                    refine fun v σ' H' f' k' => hP v (σ'.set i none) H' (out_fits f') ?_
                    have k2 : Hold g.T H' (its ρ' σ' ++ ((b, v) :: τ)) := k'.perm (permc fun _ x => by simp only [List.count_append, List.count_cons]; omega)
                    have k3 := out_hold (i := i) (z := none) f'.len k2
                    exact k3.perm (permc fun _ x => by simp only [List.count_append, List.count_cons]; omega)
                | exc _ _ _ => rw [es] at hP; exact hP.elim
                | stuck => rw [es] at hP; exact hP.elim
        · subst hb
          rw [ek] at hP
          exact h2 τ D c xs ρ d vs σ H hP f hx hl k
theorem sv_try {body : List Stmt} {h₀ : ExceptHandler} {hds : List ExceptHandler} {l : List HdV} {pos : Pos} {fb : M Fw} (hs : X.stack = X.env :: X.outer) (hf : X.env.frame = some X.env.locals) (hN : X.N.Nodup) (tk : Takes X g.W)
    (hb : ∀ (W : WX) (pn : List (Addr × Obj)) (xe : Value → Shared → Prop), Takes (X.tr pn xe) W → PassesOwn (model X.prog X.w) X.A X.env xe → BV ⟨g.T, g.s0, W⟩ (X.tr pn xe) body fb)
    (hh : HdsV g X known (h₀ :: hds) l) : SV g X (.Try body (h₀ :: hds) [] [] pos) (sTry fb l) := by
  obtain ⟨l', h1, h2⟩ := hds_as hh
  refine sv_of (My.ps_try_asM (tb := fun W => trS ⟨g.T, g.s0, W⟩ fb) hs hf hN tk (fun W pn xe tk' po => hb W pn xe tk' po) h1) fun D σ H ρ τ f h hP => ?_
  refine ⟨ρ, τ, f, h, ?_⟩
  unfold sTry at hP
  cases e : fb ρ with
  | ok fw ρ1 =>
    rw [e] at hP
    cases fw <;> exact hP
  | exc c xs ρ1 =>
    rw [e] at hP
    exact fun d vs σ' H' f' hx hl k => h2 τ D c xs ρ1 d vs σ' H' hP f' hx hl k
  | stuck => rw [e] at hP; exact hP
end
end VL

set_option Elab.async false
set_option linter.all false
set_option maxRecDepth 100000
/-! The law's own def, the walk. -/
namespace VL
open PySem PySem.Spec PyProof.Rows L2

theorem start_lt {N : List Str} {vs : List V} {i : Nat} (h : i < N.length) : i < (L2.start N vs).length := by
  unfold L2.start; simp; omega
def spLaw (K : PySem.W.Frag) : Sp := fun vs H Q _ => ∃ (a : Addr) (ns : List Int), vs = [.ref a] ∧ SqL K H a (ns.map V.int) ∧ ns.length ≤ 63 ∧ ∀ H', Q (.bl true) H'
theorem law_ok {P : Program} {w : World} {mg : Str → Option Value} {base : Heap} {T : Tb} {st : Stmt} {f : Addr} {fd : FuncData} {N : List Str} {k : Nat} {W : M Fw} (F : L2.Fun T.K "law" "law" st f fd) (S : FnScope N ["_law_script"] (defScope st)) (hn : 1 ≤ N.length)
    (hl : ∀ ns : List Int, ns.length ≤ 63 → ∃ fin, runF 1 N.length W [.scr ns] = .ok (.bl true) fin) (body : BodyV P w mg base T k "law" st N W) : FnOk P w T.K mg base (L2.CX P w) (k + 1) f fd ["_law_script"] (spLaw T.K) := by
  refine F.okX S (fun vs H Q E h => ?_) fun cdv A outer s H vs Q E hr h => ?_
  · obtain ⟨a, ns, rfl, _⟩ := h; rfl
  · obtain ⟨a, ns, rfl, hS, hle, q⟩ := h
    refine ⟨_, body f cdv A outer s H _ E hr, (body_sp (ps := ["_law_script"]) (by exact hn) ?_).2⟩
    obtain ⟨fin, e⟩ := hl ns hle
    refine ⟨[.scr ns], [], rfl, ⟨H, Same.refl H, fun x hx => ?_, List.nodup_nil, fun p hp => nomatch hp⟩, ?_⟩
    · rcases List.mem_cons.mp hx with rfl | hx
      · exact (Own.fz rfl).mpr (by simp only [Rep]; exact ⟨a, rfl, hS⟩)
      · exact nomatch hx
    · show Fin _ _ _ _ _ (runF 1 N.length W [.scr ns])
      rw [e]
      intro v H' k'
      have := k'.g_bl List.mem_cons_self
      subst this
      exact q H'
theorem walkV {l : PySem.W.OpenLaw} {q : Program} {loose : List Str} {XP : (Str → Option Value) → Heap → Prop} {YP : World → Heap → Prop} {d : DefRec} {K : Params → PySem.W.Frag} {k : Nat} (hn : l.most = some 63) (hdf : d.params.defaults = []) (hr : Room k callerA)
    (hY : ∀ (w : World) (h : Heap), YP w h → (K w.params).In h)
    (F : ∀ (w : World) (mg : Str → Option Value) (fa : Addr) (h : Heap), (K w.params).In h → h.Ns mainGlobals mg → mg d.name = some (.ref fa) →
      ∃ fd : FuncData, (∀ (s : Shared) (u : Value), BindsTo s fd ⟨[u], []⟩ [("_law_script", u)]) ∧ ∀ base : Heap, (K w.params).In base → base.Ns mainGlobals mg → FnOk l.prog w (K w.params) mg base (L2.CX l.prog w) k fa fd ["_law_script"] (spLaw (K w.params))) :
    PySem.W.WalkO q loose XP YP l.row.toRowW d [] (fun f vs => PySem.call f vs) := by
  refine L2.walk_of (n := 63) (k := k) (x := "_law_script") (CX := fun w => L2.CX l.prog w) (sp := fun w => spLaw (K w.params)) hn (by decide) hdf hr hY F (fun w H a ns hl _ hS => ⟨a, ns, rfl, hS, hl, fun _ => rfl⟩) fun w H s e s' z => ?_
  obtain ⟨a, B, H', cls, d, _, _, _, _, _, _, _, z⟩ := z
  exact z
theorem kin_known {tab : List (String × Bool)} {c : String} {b : Bool} (h : tab.lookup c = some b) : (c, b) ∈ tab := by
  induction tab with
  | nil => cases h
  | cons x tab ih =>
    obtain ⟨y, z⟩ := x
    rw [List.lookup_cons] at h
    split at h
    · rename_i e
      cases h
      have := eq_of_beq e
      subst this
      exact List.mem_cons_self
    · exact List.mem_cons_of_mem _ (ih h)
theorem lookup_mem {α β : Type} [BEq α] [LawfulBEq α] {tab : List (α × β)} {c : α} {b : β} (h : tab.lookup c = some b) : (c, b) ∈ tab := by
  induction tab with
  | nil => cases h
  | cons x tab ih =>
    obtain ⟨y, z⟩ := x
    rw [List.lookup_cons] at h
    split at h
    · rename_i e
      cases h
      have := eq_of_beq e
      subst this
      exact List.mem_cons_self
    · exact List.mem_cons_of_mem _ (ih h)
theorem kval_str {T : Tb} {x : Str} : KVal T (.str x) (.str x) := ⟨rfl, fun F => by simp only [Rep]⟩
theorem kval_int {T : Tb} {x : Int} : KVal T (.int x) (.int x) := ⟨rfl, fun F => by simp only [Rep]⟩
theorem kval_tup {T : Tb} {p : Addr} {xs : List PV} {vs : List V} {o : Obj} {its : Array Value} {n : Nat} (hl : T.K.lookup p = some o) (hc : o.cls = .type "tuple") (hd : o.data = .seq its n) (hs : its.size ≤ sizeLine) (hv : Vals vs its.toList) (hr : ∀ F : Hp, Reps T F xs vs) : KVal T (.tup xs) (.ref p) :=
  ⟨rfl, fun F => by simp only [Rep]; exact ⟨p, vs, rfl, .inr ⟨o, its, n, hl, hc, hd, hs, hv⟩, hr F⟩⟩
theorem str_room {a y : Str} {m n : Nat} (ha : a.length ≤ m) (hy : y.length ≤ n) (h : m + n ≤ 10000 := by decide) : (a ++ y).length ≤ sizeLine := by
  rw [PySem.Str.length_append]
  have : sizeLine = 2 ^ 24 := rfl
  omega
/-! ### answers of the written part, from those that can be looked up -/
theorem kit_cls' {K : PySem.W.Frag} {t : Value} {C : Addr} {b : Bool} (h1 : PySem.W.isClsIn K C = true) (h2 : PySem.W.typeIn K (.ref C) = some (.type "type")) (h3 : PySem.W.subIn K t (.ref C) = some b) : PySem.W.kitCls K t (.ref C) = some b := by
  unfold PySem.W.kitCls
  simp only
  have h1 : (PySem.W.clsIn K C).isSome = true := h1
  rw [if_pos (by rw [h1, h2]; rfl)]
  exact h3
theorem kit_yes {K : PySem.W.Frag} {t : Value} {C : Addr} (h1 : PySem.W.isClsIn K C = true) (h2 : PySem.W.typeIn K (.ref C) = some (.type "type")) (h3 : PySem.W.subIn K t (.ref C) = some true) : PySem.W.kitOne K t (.ref C) = some true := by
  unfold PySem.W.kitOne
  split
  · rfl
  · exact kit_cls' h1 h2 h3
theorem kit_not {K : PySem.W.Frag} {D : Addr} {C : Addr} (h1 : PySem.W.isClsIn K C = true) (h2 : PySem.W.typeIn K (.ref C) = some (.type "type")) (h3 : PySem.W.subIn K (.ref D) (.ref C) = some false) (h4 : (D == C) = false) : PySem.W.kitOne K (.ref D) (.ref C) = some false := by
  unfold PySem.W.kitOne
  rw [if_neg (fun z => by
    have := eq_of_beq z
    cases this
    simp at h4)]
  exact kit_cls' h1 h2 h3
theorem kit_VE {K : PySem.W.Frag} {D : Addr} (h3 : PySem.W.subIn K (.ref D) (.type "ValueError") = some true) : PySem.W.kitOne K (.ref D) (.type "ValueError") = some true := by
  unfold PySem.W.kitOne
  rw [if_neg (fun z => by have := eq_of_beq z; cases this)]
  unfold PySem.W.kitCls
  simp only
  rw [if_pos (by decide +kernel)]
  exact h3
theorem exm_own {K : PySem.W.Frag} {t : Value} {C : Addr} {b : Bool} (h0 : PySem.W.subIn K (.ref C) (.type "BaseException") = some true) (h1 : PySem.W.isClsIn K C = true) (h2 : PySem.W.typeIn K (.ref C) = some (.type "type")) (h3 : PySem.W.subIn K t (.ref C) = some b) : PySem.W.exmOne K t (.ref C) = some b := by
  unfold PySem.W.exmOne
  rw [if_pos (by rw [h0]; rfl)]
  exact kit_cls' h1 h2 h3
end VL

set_option Elab.async false
set_option linter.all false
set_option maxRecDepth 100000
/-! for x in a list that a caller lent; by the list as it stands at each turn. -/
namespace VL
open PySem PySem.Spec PyProof.Rows L2

def nowAt (j n i : Nat) (ρ : List PV) : Option PV := match nth ρ j with
  | .lst .io ys => if ys.length = n then ys[i]? else none
  | _ => none
def okAt (j n : Nat) (ρ : List PV) : Bool := match nth ρ j with
  | .lst .io ys => decide (ys.length = n)
  | _ => false
def loopJ (w : Nat → PV → PV) (j n : Nat) (t : Tg) (f : M Fw) : Nat → M Fw
  | 0, ρ => if okAt j n ρ = true then .ok .nx ρ else .stuck
  | m + 1, ρ => match nowAt j n (n - (m + 1)) ρ with
    | some x => (match t (w (n - (m + 1)) x) ρ with
      | some ρ1 => (match f ρ1 with
        | .ok .nx ρ2 => loopJ w j n t f m ρ2
        | .ok .ct ρ2 => loopJ w j n t f m ρ2
        | .ok .bk ρ2 => .ok .nx ρ2
        | r => r)
      | none => .stuck)
    | none => .stuck
def wId (_ : Nat) (x : PV) : PV := x
def wPair (i : Nat) (x : PV) : PV := .tup [.int (i : Int), x]
def sForN (j : Nat) (t : Tg) (f : M Fw) : M Fw := fun ρ => match nth ρ j with
  | .lst .io ys => loopJ wId j ys.length t f ys.length ρ
  | _ => sFor (iSeq (eN j)) t f ρ
def sForE (j : Nat) (t : Tg) (f : M Fw) : M Fw := fun ρ => match nth ρ j with
  | .lst .io ys => loopJ wPair j ys.length t f ys.length ρ
  | _ => sFor (iEnumV (aCons (eN j) aNil)) t f ρ
theorem nowAt_ok {j n i : Nat} {ρ : List PV} {x : PV} (h : nowAt j n i ρ = some x) : okAt j n ρ = true ∧ ∃ ys, nth ρ j = .lst .io ys ∧ ys.length = n ∧ ys[i]? = some x := by
  unfold nowAt at h
  split at h
  · rename_i ys e
    split at h
    · rename_i hl
      exact ⟨by unfold okAt; rw [e]; exact decide_eq_true hl, ys, e, hl, h⟩
    · cases h
  · cases h
theorem okAt_inv {j n : Nat} {ρ : List PV} (h : okAt j n ρ = true) : ∃ ys, nth ρ j = .lst .io ys ∧ ys.length = n := by
  unfold okAt at h
  split at h
  · rename_i ys e
    exact ⟨ys, e, of_decide_eq_true h⟩
  · cases h
section
variable {g : G} {X : Cx} {e o tg iter : Expr} {f : M Fw} {pos : Pos} {w : Nat → PV → PV} {j n : Nat} {t : Tg} {τ : Its} {D : Ends} {ρ : List PV}
theorem loopJ_ok {m : Nat} (h : PS1 g τ D (loopJ w j n t f m ρ)) : okAt j n ρ = true := by
  cases m with
  | zero =>
    simp only [loopJ] at h
    split at h
    · assumption
    · exact h.elim
  | succ m =>
    simp only [loopJ] at h
    cases e : nowAt j n (n - (m + 1)) ρ with
    | none => rw [e] at h; exact h.elim
    | some x => exact (nowAt_ok e).1
theorem io_at {σ : L2.St} {H : Hp} {p : Addr} {ys : List PV} (hs0 : g.s0[j]? = some (some (.ref p))) (f2 : Fits g.s0 ρ σ) (k : Hold g.T H (its ρ σ ++ τ)) (e : nth ρ j = .lst .io ys) : (PV.lst .io ys, V.ref p) ∈ its ρ σ ++ τ := by
  have hio : (nth ρ j).isIo = true := by rw [e]; rfl
  have e1 : σ[j]? = some (some (.ref p)) := by rw [f2.io j hio]; exact hs0
  have m : (nth ρ j, V.ref p) ∈ its ρ σ ++ τ := List.mem_append_left _ (its_mem f2.len e1)
  rw [e] at m
  exact m
theorem for_io {tgt : Expr} {is : List Nat} {J : It} {p : Addr} {σ : L2.St} {H : Hp} {Yw : Nat → Hp → V → Hp → Prop} (hs0 : g.s0[j]? = some (some (.ref p))) (wk : Walk J n (fun H => ∃ vs, SqL g.T.K H p vs ∧ vs.length = n) Yw)
    (hY : ∀ i H x H' l ys b, Hold g.T H l → (PV.lst .io ys, V.ref p) ∈ l → ys[i]? = some b → Yw i H x H' → Hold g.T H' ((w i b, x) :: l)) (wo : ∀ i b, b.own = false → (w i b).own = false)
    (f1 : Fits g.s0 ρ σ) (k1 : Hold g.T H (its ρ σ ++ τ)) (hP : PS1 g τ D (loopJ w j n t f n ρ)) :
    ∃ W : Nat → Nat → L2.St → Hp → Prop, (∃ m, W 0 m σ H) ∧ ∀ i m σ H, W i m σ H →
      (J.stop i H ∧ D.nx σ H) ∨ (J.go i H ∧ ∃ N : L2.St → Hp → Prop, (∀ σ' H', N σ' H' → ∃ m', m' < m ∧ W (i + 1) m' σ' H') ∧ ∀ x H', J.yld i H x H' → trG g t is x σ H' fun σ2 H2 => trS g f { D with nx := N, ct := N, bk := D.nx } σ2 H2) := by
  refine for_it wk (g := trG g t is) (tb := trS g f) (fun i σ H => ∃ ρ, Fits g.s0 ρ σ ∧ Hold g.T H (its ρ σ ++ τ) ∧ PS1 g τ D (loopJ w j n t f (n - i) ρ)) ⟨ρ, f1, k1, hP⟩ (fun i σ H hi ⟨ρ, f2, k2, hP2⟩ => ?_) (fun i x σ H H2 hi ⟨ρ, f2, k2, hP2⟩ y => ?_) fun σ H ⟨ρ, f2, k2, hP2⟩ => ?_
  · obtain ⟨ys, e1, e2⟩ := okAt_inv (loopJ_ok hP2)
    obtain ⟨p', vs, ev, h1, hl, _⟩ := k2.g_lst (io_at hs0 f2 k2 e1)
    cases ev
    exact ⟨vs, SqL.of h1, by rw [hl, e2]⟩
  · obtain ⟨m, hm⟩ : ∃ m, n - i = m + 1 := ⟨n - i - 1, by omega⟩
    have hmi : n - (m + 1) = i := by omega
    have hm2 : n - (i + 1) = m := by omega
    rw [hm] at hP2
    simp only [loopJ, hmi] at hP2
    cases e : nowAt j n i ρ with
    | none => rw [e] at hP2; exact hP2.elim
    | some b =>
      rw [e] at hP2
      simp only at hP2
      obtain ⟨_, ys, e1, e2, e3⟩ := nowAt_ok e
      have mm := io_at hs0 f2 k2 e1
      have bo : b.own = false := items_own k2 mm (xs := ys) rfl b (List.mem_of_getElem? e3)
      have k3 := hY i H x H2 _ ys b k2 mm e3 y
      cases e4 : t (w i b) ρ with
      | none => rw [e4] at hP2; exact hP2.elim
      | some ρ2 =>
        rw [e4] at hP2
        simp only at hP2
        refine ⟨w i b, ρ, τ, f2, wo i b bo, k3, ρ2, e4, fun σ' H'' _ f' k' => ⟨ρ2, τ, f', k', ?_⟩⟩
        have := ps1_more (τx := []) (D := D) (D' := { D with nx := fun σ H => ∃ ρ, Fits g.s0 ρ σ ∧ Hold g.T H (its ρ σ ++ τ) ∧ PS1 g τ D (loopJ w j n t f (n - (i + 1)) ρ), ct := fun σ H => ∃ ρ, Fits g.s0 ρ σ ∧ Hold g.T H (its ρ σ ++ τ) ∧ PS1 g τ D (loopJ w j n t f (n - (i + 1)) ρ), bk := D.nx }) (k := fun ρ2 => loopJ w j n t f m ρ2) (fun ρ3 h3 σ3 H3 f3 k3 => by
          have q : PS1 g τ D (loopJ w j n t f (n - (i + 1)) ρ3) := by
            rw [hm2]
            rcases h3 with h3 | h3 <;> rw [h3] at hP2 <;> exact hP2
          exact ⟨⟨ρ3, f3, k3, q⟩, ⟨ρ3, f3, k3, q⟩⟩) rfl rfl hP2
        exact this
  · rw [Nat.sub_self] at hP2
    simp only [loopJ] at hP2
    split at hP2
    · exact hP2 σ H f2 k2
    · exact hP2.elim
theorem sv_forN {x : Str} {p : Pos} {body : List Stmt} {is : List Nat} (hp : PassesOwn (model X.prog X.w) X.A X.env X.xe) (hc : X.calm = true) (hK : X.K = g.T.K) (he : EV g X (.Name x p) (eN j)) (hg : GV g X tg t is) (hb : BV g X body f)
    (hs : ∀ y, foldedSetIterable (.Name x p) X.env y = pure y := by intro _; rfl) : SV g X (.For tg (.Name x p) body [] pos) (sForN j t f) := by
  refine sv_of (ps_for hp hc (pi_sqV he) hg hb hs) fun D σ H ρ τ ft h hP => ?_
  have other : PS1 g τ D (sFor (iSeq (eN j)) t f ρ) → tFor (iSqV X.K (trE g (eN j))) (trG g t is) (trS g f) D σ H := fun hP => by
    obtain ⟨ρ', τ', f', h', q⟩ := for_q (is := is) D σ H ρ τ ft h hP
    exact iseq_q hK σ H _ ρ' τ' f' h' q
  unfold sForN at hP
  split at hP
  · rename_i ys e
    refine ⟨ρ, τ, ft, h, ?_⟩
    have en : eN j ρ = .ok (.sl j) ρ := by unfold eN; rw [e]; rfl
    rw [en]
    intro v H1 f1 s1 k1
    have k1 : Hold g.T H1 (its ρ σ ++ τ) := by simpa [hit] using k1
    have cj := s1 j rfl
    have m : (PV.lst .io ys, v) ∈ its ρ σ ++ τ := by
      have := List.mem_append_left τ (its_mem f1.len cj)
      rwa [e] at this
    obtain ⟨p, vs, rfl, h1, hl, _⟩ := k1.g_lst m
    have hs0 : g.s0[j]? = some (some (.ref p)) := by rw [← f1.io j (by rw [e]; rfl)]; exact cj
    refine ⟨p, rfl, .inl ⟨⟨vs, by rw [hK]; exact SqL.of h1⟩, ?_⟩⟩
    rw [hK]
    refine for_io (tgt := tg) (w := wId) hs0 walk_L (fun i H x H' l ys b k m e y => ?_) (fun _ _ h => h) f1 k1 hP
    obtain ⟨rfl, y⟩ := y
    obtain ⟨_, _, _, q3⟩ := lst_at _ l k m
    exact q3 i x y b e
  · exact other hP
theorem sv_forE {x : Str} {p p' epos tpos : Pos} {elts : List Expr} {kk : Nat} {body : List Stmt} {is : List Nat} (hp : PassesOwn (model X.prog X.w) X.A X.env X.xe) (hc : X.calm = true) (hK : X.K = g.T.K) (hge : Gl X "enumerate") (hm : X.mg "enumerate" = none) (he : EV g X (.Name x p) (eN j)) (hg : GV g X (.Tuple elts kk tpos) t is) (hb : BV g X body f)
    (h1 : starEach [.Name x p] X.env = [(false, eval (.Name x p) X.env)] := by rfl) (h2 : starEach (.Name x p :: []) X.env = (false, eval (.Name x p) X.env) :: starEach [] X.env := by rfl) (hs : ∀ y, foldedSetIterable (.Call (.Name "enumerate" p') [.Name x p] [] epos) X.env y = pure y := by intro _; rfl) :
    SV g X (.For (.Tuple elts kk tpos) (.Call (.Name "enumerate" p') [.Name x p] [] epos) body [] pos) (sForE j t f) := by
  refine sv_of (ps_for hp hc (pi_enV hge hm (av_cons he av_nil) h1) hg hb hs) fun D σ H ρ τ ft h hP => ?_
  have other : PS1 g τ D (sFor (iEnumV (aCons (eN j) aNil)) t f ρ) → tFor (iEnV X.K (trA g (aCons (eN j) aNil))) (trG g t is) (trS g f) D σ H := fun hP => by
    obtain ⟨ρ', τ', f', h', q⟩ := for_q (is := is) D σ H ρ τ ft h hP
    exact ienum_q hK σ H _ ρ' τ' f' h' q
  unfold sForE at hP
  split at hP
  · rename_i ys e
    refine ⟨ρ, τ, ft, h, ?_⟩
    have en : aCons (eN j) aNil ρ = .ok [.sl j] ρ := by unfold aCons eN aNil; rw [e]; rfl
    rw [en]
    intro vs0 H1 f1 s1 k1
    obtain ⟨v, vs', rfl, c1, c2⟩ := s1
    have c2 : vs' = [] := c2
    subst c2
    have k1 : Hold g.T H1 (its ρ σ ++ τ) := by simpa [hits, hit] using k1
    have cj := c1 j rfl
    have m : (PV.lst .io ys, v) ∈ its ρ σ ++ τ := by
      have := List.mem_append_left τ (its_mem f1.len cj)
      rwa [e] at this
    obtain ⟨p, vs, rfl, h1, hl, _⟩ := k1.g_lst m
    have hs0 : g.s0[j]? = some (some (.ref p)) := by rw [← f1.io j (by rw [e]; rfl)]; exact cj
    refine ⟨p, rfl, .inl ⟨⟨vs, by rw [hK]; exact SqL.of h1⟩, ?_⟩⟩
    rw [hK]
    refine for_io (tgt := .Tuple elts kk tpos) (w := wPair) hs0 walk_eL (fun i H x H' l ys b k m e y => ?_) (fun _ _ _ => rfl) f1 k1 hP
    obtain ⟨T, z, rfl, ht, rfl, y⟩ := y
    obtain ⟨_, _, _, q3⟩ := lst_at _ l k m
    have k5 := q3 i z y b e
    exact pair_new (k5.int (i := (i : Nat))) rfl (items_own k m (xs := ys) rfl b (List.mem_of_getElem? e)) ht
  · exact other hP
end
end VL

set_option Elab.async false
set_option linter.all false
set_option maxRecDepth 100000
/-! Loops of the words, without a heap. -/
namespace VL
open PySem PySem.Spec PyProof.Rows L2

theorem loop_ls {t : Tg} {f : M Fw} {xs : List PV} {ρ : List PV} (I : Nat → List PV → Prop) (h0 : I 0 ρ) (step : ∀ i x ρ, xs[i]? = some x → I i ρ → ∃ ρ1 ρ2, t x ρ = some ρ1 ∧ f ρ1 = .ok .nx ρ2 ∧ I (i + 1) ρ2) :
    ∃ ρ', loop t f xs ρ = .ok .nx ρ' ∧ I xs.length ρ' := by
  induction xs generalizing I ρ with
  | nil => exact ⟨ρ, rfl, h0⟩
  | cons x xs ih =>
    obtain ⟨ρ1, ρ2, e1, e2, q⟩ := step 0 x ρ rfl h0
    obtain ⟨ρ', e3, q'⟩ := ih (fun i => I (i + 1)) q fun i y ρ hy hI => step (i + 1) y ρ (by simpa using hy) hI
    refine ⟨ρ', ?_, q'⟩
    simp only [loop, e1, e2]
    exact e3
/-- the loop ends by itself, or returns a -/
theorem loop_rt {t : Tg} {f : M Fw} {xs : List PV} {ρ : List PV} {a : PV} (I : Nat → List PV → Prop) (P : List PV → Prop) (h0 : I 0 ρ)
    (step : ∀ i x ρ, xs[i]? = some x → I i ρ → ∃ ρ1 ρ2, t x ρ = some ρ1 ∧ ((f ρ1 = .ok .nx ρ2 ∧ I (i + 1) ρ2) ∨ (f ρ1 = .ok (.rt a) ρ2 ∧ P ρ2))) :
    ∃ ρ', (loop t f xs ρ = .ok .nx ρ' ∧ I xs.length ρ') ∨ (loop t f xs ρ = .ok (.rt a) ρ' ∧ P ρ') := by
  induction xs generalizing I ρ with
  | nil => exact ⟨ρ, .inl ⟨rfl, h0⟩⟩
  | cons x xs ih =>
    obtain ⟨ρ1, ρ2, e1, ⟨e2, q⟩ | ⟨e2, q⟩⟩ := step 0 x ρ rfl h0
    · obtain ⟨ρ', q'⟩ := ih (fun i => I (i + 1)) q fun i y ρ hy hI => step (i + 1) y ρ (by simpa using hy) hI
      refine ⟨ρ', ?_⟩
      simp only [loop, e1, e2]
      exact q'
    · refine ⟨ρ2, .inr ⟨?_, q⟩⟩
      simp only [loop, e1, e2]
theorem rgL_len (a b : Int) : (rgL a b).length = (b - a).toNat := by simp [rgL]
theorem rgL_get {a b : Int} {i : Nat} {x : PV} (h : (rgL a b)[i]? = some x) : x = .int (a + i) ∧ a + i < b := by
  unfold rgL at h
  rw [List.getElem?_map] at h
  obtain ⟨j, hj, rfl⟩ := Option.map_eq_some_iff.mp h
  have := List.getElem?_eq_some_iff.mp hj
  obtain ⟨h1, h2⟩ := this
  rw [List.getElem_range] at h2
  subst h2
  rw [List.length_range] at h1
  exact ⟨rfl, by omega⟩
theorem loop_rg {t : Tg} {f : M Fw} {a b : Int} {ρ : List PV} (I : Int → List PV → Prop) (hab : a ≤ b) (h0 : I a ρ) (step : ∀ i ρ, a ≤ i → i < b → I i ρ → ∃ ρ1 ρ2, t (.int i) ρ = some ρ1 ∧ f ρ1 = .ok .nx ρ2 ∧ I (i + 1) ρ2) :
    ∃ ρ', loop t f (rgL a b) ρ = .ok .nx ρ' ∧ I b ρ' := by
  obtain ⟨ρ', e, q⟩ := loop_ls (t := t) (f := f) (xs := rgL a b) (fun i => I (a + i)) (by simpa using h0) fun i x ρ hx hI => by
    obtain ⟨rfl, hlt⟩ := rgL_get hx
    obtain ⟨ρ1, ρ2, e1, e2, q⟩ := step _ ρ (by omega) hlt hI
    exact ⟨ρ1, ρ2, e1, e2, by rw [show a + ((i + 1 : Nat) : Int) = a + i + 1 from by omega]; exact q⟩
  refine ⟨ρ', e, ?_⟩
  have : a + ((rgL a b).length : Int) = b := by rw [rgL_len]; omega
  rw [this] at q
  exact q
theorem loop_rg_rt {t : Tg} {f : M Fw} {a b : Int} {ρ : List PV} {c : PV} (I : Int → List PV → Prop) (P : List PV → Prop) (hab : a ≤ b) (h0 : I a ρ)
    (step : ∀ i ρ, a ≤ i → i < b → I i ρ → ∃ ρ1 ρ2, t (.int i) ρ = some ρ1 ∧ ((f ρ1 = .ok .nx ρ2 ∧ I (i + 1) ρ2) ∨ (f ρ1 = .ok (.rt c) ρ2 ∧ P ρ2))) :
    ∃ ρ', (loop t f (rgL a b) ρ = .ok .nx ρ' ∧ I b ρ') ∨ (loop t f (rgL a b) ρ = .ok (.rt c) ρ' ∧ P ρ') := by
  obtain ⟨ρ', q⟩ := loop_rt (t := t) (f := f) (xs := rgL a b) (fun i => I (a + i)) P (by simpa using h0) fun i x ρ hx hI => by
    obtain ⟨rfl, hlt⟩ := rgL_get hx
    obtain ⟨ρ1, ρ2, e1, q⟩ := step _ ρ (by omega) hlt hI
    exact ⟨ρ1, ρ2, e1, q.imp (fun ⟨e2, q⟩ => ⟨e2, by rw [show a + ((i + 1 : Nat) : Int) = a + i + 1 from by omega]; exact q⟩) id⟩
  refine ⟨ρ', q.imp (fun ⟨e, q⟩ => ⟨e, ?_⟩) id⟩
  have : a + ((rgL a b).length : Int) = b := by rw [rgL_len]; omega
  rw [this] at q
  exact q
/-- a list's display by a for -/
theorem lcl_ls {t : Tg} {tt : M Bool} {fe : M Hd} {own : List Nat} {xs acc : List PV} {ρ : List PV} (I : Nat → List PV → List PV → Prop) (h0 : I 0 acc ρ)
    (step : ∀ i x acc ρ, xs[i]? = some x → I i acc ρ → ∃ ρ1 ρ2 ρ3 ρ4 h a, t x ρ = some ρ1 ∧ tt ρ1 = .ok true ρ2 ∧ fe ρ2 = .ok h ρ3 ∧ take ρ3 h = some (a, ρ4) ∧ acc.length < lim ∧ I (i + 1) (acc ++ [a]) (wipeQ ρ4 own)) :
    ∃ ys ρ', lcl t tt fe own xs acc ρ = .ok ys ρ' ∧ I xs.length ys ρ' := by
  induction xs generalizing I acc ρ with
  | nil => exact ⟨acc, ρ, rfl, h0⟩
  | cons x xs ih =>
    obtain ⟨ρ1, ρ2, ρ3, ρ4, h, a, e1, e2, e3, e4, e5, q⟩ := step 0 x acc ρ rfl h0
    obtain ⟨ys, ρ', e6, q'⟩ := ih (fun i => I (i + 1)) q fun i y acc ρ hy hI => step (i + 1) y acc ρ (by simpa using hy) hI
    refine ⟨ys, ρ', ?_, q'⟩
    simp only [lcl, e1, e2, e3, e4, if_pos e5]
    exact e6
theorem lcl_rg {t : Tg} {tt : M Bool} {fe : M Hd} {own : List Nat} {acc : List PV} {ρ : List PV} {a b : Int} (I : Int → List PV → List PV → Prop) (hab : a ≤ b) (h0 : I a acc ρ)
    (step : ∀ i acc ρ, a ≤ i → i < b → I i acc ρ → ∃ ρ1 ρ2 ρ3 ρ4 h c, t (.int i) ρ = some ρ1 ∧ tt ρ1 = .ok true ρ2 ∧ fe ρ2 = .ok h ρ3 ∧ take ρ3 h = some (c, ρ4) ∧ acc.length < lim ∧ I (i + 1) (acc ++ [c]) (wipeQ ρ4 own)) :
    ∃ ys ρ', lcl t tt fe own (rgL a b) acc ρ = .ok ys ρ' ∧ I b ys ρ' := by
  obtain ⟨ys, ρ', e, q⟩ := lcl_ls (t := t) (tt := tt) (fe := fe) (own := own) (xs := rgL a b) (acc := acc) (ρ := ρ) (fun i => I (a + i)) (by simpa using h0) fun i x acc ρ hx hI => by
    obtain ⟨rfl, hlt⟩ := rgL_get hx
    obtain ⟨ρ1, ρ2, ρ3, ρ4, h, c, e1, e2, e3, e4, e5, q⟩ := step _ acc ρ (by omega) hlt hI
    exact ⟨ρ1, ρ2, ρ3, ρ4, h, c, e1, e2, e3, e4, e5, by rw [show a + ((i + 1 : Nat) : Int) = a + i + 1 from by omega]; exact q⟩
  refine ⟨ys, ρ', e, ?_⟩
  have : a + ((rgL a b).length : Int) = b := by rw [rgL_len]; omega
  rw [this] at q
  exact q
theorem cm_l {i j : Int} (h1 : -(2 ^ 64) < i) (h2 : i < 2 ^ 64) : cMul i j = true := decide_eq_true (.inl ⟨h1, h2⟩)
theorem cm_mod {i j : Int} : cMul (i % 2147483647) j = true := cm_l (by omega) (by omega)
theorem cm_mod2 {i j : Int} : cMul (i % 2147483629) j = true := cm_l (by omega) (by omega)
theorem cm_7919 {j : Int} : cMul 7919 j = true := cm_l (by decide) (by decide)
theorem cm_31 {j : Int} : cMul 31 j = true := cm_l (by decide) (by decide)
/-! ### the words, applied -/
theorem u_eN (i : Nat) (ρ : List PV) : eN i ρ = (if (nth ρ i).isEmp = true then .stuck else .ok (.sl i) ρ) := rfl
theorem u_eC (a : PV) (ρ : List PV) : eC a ρ = (.ok (.tm a) ρ) := rfl
theorem u_eBin (op : PV → PV → Option PV) (fa fb : M Hd) (ρ : List PV) : eBin op fa fb ρ = ((fa ρ).bind fun h1 ρ1 => (fb ρ1).bind fun h2 ρ2 => ofO ρ2 (op (hv ρ2 h1) (hv ρ2 h2))) := rfl
theorem u_eUn (op : PV → Option PV) (fa : M Hd) (ρ : List PV) : eUn op fa ρ = ((fa ρ).bind fun h ρ1 => ofO ρ1 (op (hv ρ1 h))) := rfl
theorem u_tE (fa : M Hd) (ρ : List PV) : tE fa ρ = ((fa ρ).bind fun h ρ1 => ofB ρ1 (tru (hv ρ1 h))) := rfl
theorem u_tB (fa : M Hd) (ρ : List PV) : tB fa ρ = ((fa ρ).bind fun h ρ1 => ofB ρ1 (blOf (hv ρ1 h))) := rfl
theorem u_tAnd (ta tb : M Bool) (ρ : List PV) : tAnd ta tb ρ = ((ta ρ).bind fun b ρ1 => if b = true then tb ρ1 else .ok false ρ1) := rfl
theorem u_tOr (ta tb : M Bool) (ρ : List PV) : tOr ta tb ρ = ((ta ρ).bind fun b ρ1 => if b = true then .ok true ρ1 else tb ρ1) := rfl
theorem u_tNot (ta : M Bool) (ρ : List PV) : tNot ta ρ = ((ta ρ).bind fun b ρ1 => .ok (!b) ρ1) := rfl
theorem u_eAnd (fa fb : M Hd) (ρ : List PV) : eAnd fa fb ρ = ((fa ρ).bind fun h ρ1 => (ofB ρ1 (blOf (hv ρ1 h))).bind fun b ρ2 => if b = true then fb ρ2 else .ok (.tm (.bl false)) ρ2) := rfl
theorem u_eOr (fa fb : M Hd) (ρ : List PV) : eOr fa fb ρ = ((fa ρ).bind fun h ρ1 => (ofB ρ1 (blOf (hv ρ1 h))).bind fun b ρ2 => if b = true then .ok (.tm (.bl true)) ρ2 else fb ρ2) := rfl
theorem u_eNot (fa : M Hd) (ρ : List PV) : eNot fa ρ = ((fa ρ).bind fun h ρ1 => (ofB ρ1 (blOf (hv ρ1 h))).bind fun b ρ2 => .ok (.tm (.bl (!b))) ρ2) := rfl
theorem u_eIf (tc : M Bool) (fa fb : M Hd) (ρ : List PV) : eIf tc fa fb ρ = ((tc ρ).bind fun b ρ1 => if b = true then fa ρ1 else fb ρ1) := rfl
theorem u_aNil (ρ : List PV) : aNil  ρ = (.ok [] ρ) := rfl
theorem u_aCons (fa : M Hd) (fs : M (List Hd)) (ρ : List PV) : aCons fa fs ρ = ((fa ρ).bind fun h ρ1 => (fs ρ1).bind fun hs ρ2 => .ok (h :: hs) ρ2) := rfl
theorem u_eTup (fs : M (List Hd)) (ρ : List PV) : eTup fs ρ = ((fs ρ).bind fun hs ρ1 => match takes hs ρ1 with
    | some (as, ρ2) => if as.length ≤ lim then .ok (.tm (.tup as)) ρ2 else .stuck
    | none => .stuck) := rfl
theorem u_eLst (fs : M (List Hd)) (ρ : List PV) : eLst fs ρ = ((fs ρ).bind fun hs ρ1 => match takes hs ρ1 with
    | some (as, ρ2) => if as.length ≤ lim then .ok (.tm (.lst .ow as)) ρ2 else .stuck
    | none => .stuck) := rfl
theorem u_eFn (op : List PV → Option PV) (fs : M (List Hd)) (ρ : List PV) : eFn op fs ρ = ((fs ρ).bind fun hs ρ1 => ofO ρ1 (op (hs.map (hv ρ1)))) := rfl
theorem u_eCh (op op' : PV → PV → Option PV) (fa fb fc : M Hd) (ρ : List PV) : eCh op op' fa fb fc ρ = ((fa ρ).bind fun h1 ρ1 => (fb ρ1).bind fun h2 ρ2 => (ofB ρ2 ((op (hv ρ2 h1) (hv ρ2 h2)).bind blOf)).bind fun b ρ3 =>
    if b = true then (fc ρ3).bind fun h3 ρ4 => ofO ρ4 (op' (hv ρ4 h2) (hv ρ4 h3)) else .ok (.tm (.bl false)) ρ3) := rfl
theorem u_eSl (fa : M Hd) (fl fh : Option (M Hd)) (ρ : List PV) : eSl fa fl fh ρ = ((fa ρ).bind fun h ρ1 => (part fl ρ1).bind fun l ρ2 => (part fh ρ2).bind fun u ρ3 => ofO ρ3 (oCut (hv ρ3 h) l u)) := rfl
theorem u_eRg1 (tup : Bool) (fa : M Hd) (ρ : List PV) : eRg1 tup fa ρ = ((fa ρ).bind fun h ρ1 => match hv ρ1 h with
    | .int n => (match oRg 0 n with | some xs => .ok (.tm (if tup = true then .tup xs else .lst .ow xs)) ρ1 | none => .stuck)
    | _ => .stuck) := rfl
theorem u_eCall (F : List PV → R PV) (fs : M (List Hd)) (ρ : List PV) : eCall F fs ρ = ((fs ρ).bind fun hs ρ1 =>
    if okArgs hs ρ1 = true then (match F (hs.map (hv ρ1)) with
      | .ok a fin => .ok (.tm a) (back ρ1 hs fin)
      | .exc c xs fin => .exc c xs (back ρ1 hs fin)
      | .stuck => .stuck) else .stuck) := rfl
theorem u_eMeth (c : String) (F : List PV → R PV) (fo : M Hd) (fs : M (List Hd)) (ρ : List PV) : eMeth c F fo fs ρ = ((fo ρ).bind fun h ρ1 => if isObj c (hv ρ1 h) = true then (fs ρ1).bind fun hs ρ2 => callH F (h :: hs) ρ2 fun a ρ3 => .ok (.tm a) ρ3 else .stuck) := rfl
theorem u_eProp (c : String) (F : List PV → R PV) (fo : M Hd) (ρ : List PV) : eProp c F fo ρ = ((fo ρ).bind fun h ρ1 => if isObj c (hv ρ1 h) = true then (match F [hv ρ1 h] with
    | .ok a fin => .ok (.tm a) (back ρ1 [h] fin)
    | _ => .stuck) else .stuck) := rfl
theorem u_eMake (c : String) (imm : Bool) (F : List PV → R PV) (fs : M (List Hd)) (ρ : List PV) : eMake c imm F fs ρ = ((fs ρ).bind fun hs ρ1 => if okArgs hs ρ1 = true then (match F (.obj .io c [] :: hs.map (hv ρ1)) with
    | .ok .non (s :: fin) => .ok (.tm (if imm = true then s.setFl .fz else s)) (back ρ1 hs fin)
    | .exc c' xs (_ :: fin) => .exc c' xs (back ρ1 hs fin)
    | _ => .stuck) else .stuck) := rfl
theorem u_eObj (c : String) (F : List PV → R PV) (fo : M Hd) (fs : M (List Hd)) (ρ : List PV) : eObj c F fo fs ρ = ((fo ρ).bind fun h ρ1 => if isObj c (hv ρ1 h) = true then (fs ρ1).bind fun hs ρ2 => if isObj c (hv ρ2 h) = true then callH F (h :: hs) ρ2 fun a ρ3 => .ok (.tm a) ρ3 else .stuck else .stuck) := rfl
theorem u_sNx (ρ : List PV) : sNx  ρ = (.ok .nx ρ) := rfl
theorem u_sBk (ρ : List PV) : sBk  ρ = (.ok .bk ρ) := rfl
theorem u_sCt (ρ : List PV) : sCt  ρ = (.ok .ct ρ) := rfl
theorem u_sSeq (f k : M Fw) (ρ : List PV) : sSeq f k ρ = (match f ρ with
    | .ok .nx ρ1 => k ρ1
    | r => r) := rfl
theorem u_sE (f : M Hd) (ρ : List PV) : sE f ρ = ((f ρ).bind fun _ ρ1 => .ok .nx ρ1) := rfl
theorem u_sSet (i : Nat) (f : M Hd) (ρ : List PV) : sSet i f ρ = ((f ρ).bind fun h ρ1 => match keep h ρ1 with
    | some (a, ρ2) => ofL (setAt i a ρ2)
    | none => .stuck) := rfl
theorem u_sRet (f : M Hd) (ρ : List PV) : sRet f ρ = ((f ρ).bind fun h ρ1 => match h with
    | .tm a => .ok (.rt a) ρ1
    | .sl j => if (nth ρ1 j).isIo = true then .stuck else .ok (.rt (nth ρ1 j)) (ρ1.set j .emp)) := rfl
theorem u_sRetN (ρ : List PV) : sRetN  ρ = (.ok (.rt .non) ρ) := rfl
theorem u_sIf (t : M Bool) (f k : M Fw) (ρ : List PV) : sIf t f k ρ = ((t ρ).bind fun b ρ1 => if b = true then f ρ1 else k ρ1) := rfl
theorem u_gT (ts : List Tg) (a : PV) (ρ : List PV) : gT ts a ρ = (match a with
    | .tup xs => gL ts xs ρ
    | _ => none) := rfl
theorem u_sAsg (t : Tg) (f : M Hd) (ρ : List PV) : sAsg t f ρ = ((f ρ).bind fun h ρ1 => match take ρ1 h with
    | some (a, ρ2) => ofL (t a ρ2)
    | none => .stuck) := rfl
theorem u_sSub (fo fi fv : M Hd) (ρ : List PV) : sSub fo fi fv ρ = ((fv ρ).bind fun h0 ρ1 => (fo ρ1).bind fun h1 ρ2 => (fi ρ2).bind fun h2 ρ3 => match h1, take ρ3 h0 with
    | .sl j, some (a, ρ4) => (match nth ρ4 j, hv ρ4 h2 with
      | .lst .fz _, _ => .stuck
      | .lst o xs, .int k => (match ixN xs.length k with
        | some m => .ok .nx (ρ4.set j (.lst o (xs.set m a)))
        | none => .stuck)
      | _, _ => .stuck)
    | _, _ => .stuck) := rfl
theorem u_sAt (c : String) (i : Nat) (fo fv : M Hd) (ρ : List PV) : sAt c i fo fv ρ = ((fv ρ).bind fun h0 ρ1 => (fo ρ1).bind fun h1 ρ2 => match h1, take ρ2 h0 with
    | .sl j, some (a, ρ3) => (match nth ρ3 j with
      | .obj .fz _ _ => .stuck
      | .obj o c' xs => if c' = c then (match putA xs i a with
        | some ys => .ok .nx (ρ3.set j (.obj o c' ys))
        | none => .stuck) else .stuck
      | _ => .stuck)
    | _, _ => .stuck) := rfl
theorem u_sFor (fi : M (List PV)) (t : Tg) (f : M Fw) (ρ : List PV) : sFor fi t f ρ = ((fi ρ).bind fun xs ρ1 => loop t f xs ρ1) := rfl
theorem u_tYesV (ρ : List PV) : tYesV  ρ = (.ok true ρ) := rfl
theorem u_iSeq (f : M Hd) (ρ : List PV) : iSeq f ρ = ((f ρ).bind fun h ρ1 => match take ρ1 h with
    | some (a, ρ2) => ofX ρ2 (seqOf a)
    | none => .stuck) := rfl
theorem u_iRg1 (fs : M (List Hd)) (ρ : List PV) : iRg1 fs ρ = ((fs ρ).bind fun hs ρ1 => match hs.map (hv ρ1) with
    | [.int n] => ofX ρ1 (oRg 0 n)
    | _ => .stuck) := rfl
theorem u_iRg2 (fs : M (List Hd)) (ρ : List PV) : iRg2 fs ρ = ((fs ρ).bind fun hs ρ1 => match hs.map (hv ρ1) with
    | [.int a, .int b] => ofX ρ1 (oRg a b)
    | _ => .stuck) := rfl
theorem u_eLc (fi : M (List PV)) (t : Tg) (tt : M Bool) (fe : M Hd) (own : List Nat) (ρ : List PV) : eLc fi t tt fe own ρ = ((fi ρ).bind fun xs ρ1 => match lcl t tt fe own xs [] (wipeQ ρ1 own) with
    | .ok ys ρ2 => .ok (.tm (.lst .ow ys)) (restP ρ2 ρ1 own)
    | _ => .stuck) := rfl
theorem u_eMt (T : String) (op : PV → List PV → Option PV) (fo : M Hd) (fs : M (List Hd)) (ρ : List PV) : eMt T op fo fs ρ = ((fo ρ).bind fun h ρ1 => if kT (hv ρ1 h) = T then (fs ρ1).bind fun hs ρ2 => ofO ρ2 (op (hv ρ2 h) (hs.map (hv ρ2))) else .stuck) := rfl
theorem u_eMu (T : String) (op : PV → List PV → Option (PV × PV)) (fo : M Hd) (fs : M (List Hd)) (ρ : List PV) : eMu T op fo fs ρ = ((fo ρ).bind fun h ρ1 => if kT (hv ρ1 h) = T then (fs ρ1).bind fun hs ρ2 => muEnd op h (takes hs ρ2) else .stuck) := rfl
theorem u_sRaise1 (c : String) (ok : PV → Bool) (fs : M (List Hd)) (ρ : List PV) : sRaise1 c ok fs ρ = ((fs ρ).bind fun hs ρ1 => match takes hs ρ1 with
    | some ([a], ρ2) => if ok a = true then .exc c [a] ρ2 else .stuck
    | _ => .stuck) := rfl
theorem u_iEnumV (fs : M (List Hd)) (ρ : List PV) : iEnumV fs ρ = ((fs ρ).bind fun hs ρ1 => match takes hs ρ1 with
    | some ([a], ρ2) => ofX ρ2 ((seqOf a).map fun xs => pairs xs 0)
    | _ => .stuck) := rfl
theorem u_iZipV (fs : M (List Hd)) (ρ : List PV) : iZipV fs ρ = ((fs ρ).bind fun hs ρ1 => match takes hs ρ1 with
    | some ([a, b], ρ2) => if lst2 a b = true then ofX ρ2 ((seqOf a).bind fun xs => (seqOf b).map fun ys => zpairs xs ys) else .stuck
    | _ => .stuck) := rfl
theorem u_eKd (tab : List (Str × PV)) (fk : M Hd) (ρ : List PV) : eKd tab fk ρ = ((fk ρ).bind fun h ρ1 => match hv ρ1 h with
    | .str z => (match tab.lookup z with
      | some a => .ok (.tm a) ρ1
      | none => .stuck)
    | _ => .stuck) := rfl
theorem u_eIsE (kt : String → String → Option Bool) (i : Nat) (c : String) (d : Option Addr) (fs : M (List Hd)) (ρ : List PV) : eIsE kt i c d fs ρ = ((fs ρ).bind fun hs ρ1 => match hs with
    | [h1, h2] => if isE i c d ρ1 h1 = true then (match isK kt c (hv ρ1 h2) with
      | some b => .ok (.tm (.bl b)) ρ1
      | none => .stuck) else .stuck
    | _ => .stuck) := rfl
theorem u_eFE (ft : String → Str → Option Nat) (i : Nat) (c : String) (d : Option Addr) (f : Str) (fo : M Hd) (ρ : List PV) : eFE ft i c d f fo ρ = ((fo ρ).bind fun h ρ1 => if isE i c d ρ1 h = true then (match nth ρ1 i, ft c f with
    | .err _ _ xs, some n => (match xs[n]? with
      | some a => .ok (.tm a) ρ1
      | none => .stuck)
    | _, _ => .stuck) else .stuck) := rfl
/-! ### what the heads are, for simp -/
@[simp] theorem q1 : PV.isIo (PV.emp) = false := rfl
@[simp] theorem q2 : PV.own (PV.emp) = false := rfl
@[simp] theorem q3 : PV.isEmp (PV.emp) = true := rfl
@[simp] theorem q4 : PV.fl (PV.emp) = .fz := rfl
@[simp] theorem q5 : PV.setFl .ow (PV.emp) = (PV.emp) := rfl
@[simp] theorem q6 : PV.setFl .io (PV.emp) = (PV.emp) := rfl
@[simp] theorem q7 : PV.setFl .fz (PV.emp) = (PV.emp) := rfl
@[simp] theorem q8 : fzOf (PV.emp) = none := rfl
@[simp] theorem q9 : kT (PV.emp) = "" := rfl
@[simp] theorem q10 : PV.isIo (PV.non) = false := rfl
@[simp] theorem q11 : PV.own (PV.non) = false := rfl
@[simp] theorem q12 : PV.isEmp (PV.non) = false := rfl
@[simp] theorem q13 : PV.fl (PV.non) = .fz := rfl
@[simp] theorem q14 : PV.setFl .ow (PV.non) = (PV.non) := rfl
@[simp] theorem q15 : PV.setFl .io (PV.non) = (PV.non) := rfl
@[simp] theorem q16 : PV.setFl .fz (PV.non) = (PV.non) := rfl
@[simp] theorem q17 : fzOf (PV.non) = some (PV.non) := rfl
@[simp] theorem q18 : kT (PV.non) = "" := rfl
@[simp] theorem q19 {b} : PV.isIo (PV.bl b) = false := rfl
@[simp] theorem q20 {b} : PV.own (PV.bl b) = false := rfl
@[simp] theorem q21 {b} : PV.isEmp (PV.bl b) = false := rfl
@[simp] theorem q22 {b} : PV.fl (PV.bl b) = .fz := rfl
@[simp] theorem q23 {b} : PV.setFl .ow (PV.bl b) = (PV.bl b) := rfl
@[simp] theorem q24 {b} : PV.setFl .io (PV.bl b) = (PV.bl b) := rfl
@[simp] theorem q25 {b} : PV.setFl .fz (PV.bl b) = (PV.bl b) := rfl
@[simp] theorem q26 {b} : fzOf (PV.bl b) = some (PV.bl b) := rfl
@[simp] theorem q27 {b} : kT (PV.bl b) = "" := rfl
@[simp] theorem q28 {i} : PV.isIo (PV.int i) = false := rfl
@[simp] theorem q29 {i} : PV.own (PV.int i) = false := rfl
@[simp] theorem q30 {i} : PV.isEmp (PV.int i) = false := rfl
@[simp] theorem q31 {i} : PV.fl (PV.int i) = .fz := rfl
@[simp] theorem q32 {i} : PV.setFl .ow (PV.int i) = (PV.int i) := rfl
@[simp] theorem q33 {i} : PV.setFl .io (PV.int i) = (PV.int i) := rfl
@[simp] theorem q34 {i} : PV.setFl .fz (PV.int i) = (PV.int i) := rfl
@[simp] theorem q35 {i} : fzOf (PV.int i) = some (PV.int i) := rfl
@[simp] theorem q36 {i} : kT (PV.int i) = "int" := rfl
@[simp] theorem q37 {x} : PV.isIo (PV.str x) = false := rfl
@[simp] theorem q38 {x} : PV.own (PV.str x) = false := rfl
@[simp] theorem q39 {x} : PV.isEmp (PV.str x) = false := rfl
@[simp] theorem q40 {x} : PV.fl (PV.str x) = .fz := rfl
@[simp] theorem q41 {x} : PV.setFl .ow (PV.str x) = (PV.str x) := rfl
@[simp] theorem q42 {x} : PV.setFl .io (PV.str x) = (PV.str x) := rfl
@[simp] theorem q43 {x} : PV.setFl .fz (PV.str x) = (PV.str x) := rfl
@[simp] theorem q44 {x} : fzOf (PV.str x) = some (PV.str x) := rfl
@[simp] theorem q45 {x} : kT (PV.str x) = "str" := rfl
@[simp] theorem q46 {xs} : PV.isIo (PV.tup xs) = false := rfl
@[simp] theorem q47 {xs} : PV.own (PV.tup xs) = false := rfl
@[simp] theorem q48 {xs} : PV.isEmp (PV.tup xs) = false := rfl
@[simp] theorem q49 {xs} : PV.fl (PV.tup xs) = .fz := rfl
@[simp] theorem q50 {xs} : PV.setFl .ow (PV.tup xs) = (PV.tup xs) := rfl
@[simp] theorem q51 {xs} : PV.setFl .io (PV.tup xs) = (PV.tup xs) := rfl
@[simp] theorem q52 {xs} : PV.setFl .fz (PV.tup xs) = (PV.tup xs) := rfl
@[simp] theorem q53 {xs} : fzOf (PV.tup xs) = some (PV.tup xs) := rfl
@[simp] theorem q54 {xs} : kT (PV.tup xs) = "" := rfl
@[simp] theorem q55 {xs} : PV.isIo (PV.lst .fz xs) = false := rfl
@[simp] theorem q56 {xs} : PV.own (PV.lst .fz xs) = false := rfl
@[simp] theorem q57 {xs} : PV.isEmp (PV.lst .fz xs) = false := rfl
@[simp] theorem q58 {xs} : PV.fl (PV.lst .fz xs) = .fz := rfl
@[simp] theorem q59 {xs} : PV.setFl .ow (PV.lst .fz xs) = PV.lst .ow xs := rfl
@[simp] theorem q60 {xs} : PV.setFl .io (PV.lst .fz xs) = PV.lst .io xs := rfl
@[simp] theorem q61 {xs} : PV.setFl .fz (PV.lst .fz xs) = PV.lst .fz xs := rfl
@[simp] theorem q62 {xs} : fzOf (PV.lst .fz xs) = some (PV.lst .fz xs) := rfl
@[simp] theorem q63 {xs} : kT (PV.lst .fz xs) = "list" := rfl
@[simp] theorem q64 {xs} : PV.isIo (PV.lst .ow xs) = false := rfl
@[simp] theorem q65 {xs} : PV.own (PV.lst .ow xs) = true := rfl
@[simp] theorem q66 {xs} : PV.isEmp (PV.lst .ow xs) = false := rfl
@[simp] theorem q67 {xs} : PV.fl (PV.lst .ow xs) = .ow := rfl
@[simp] theorem q68 {xs} : PV.setFl .ow (PV.lst .ow xs) = PV.lst .ow xs := rfl
@[simp] theorem q69 {xs} : PV.setFl .io (PV.lst .ow xs) = PV.lst .io xs := rfl
@[simp] theorem q70 {xs} : PV.setFl .fz (PV.lst .ow xs) = PV.lst .fz xs := rfl
@[simp] theorem q71 {xs} : fzOf (PV.lst .ow xs) = some (PV.lst .fz xs) := rfl
@[simp] theorem q72 {xs} : kT (PV.lst .ow xs) = "list" := rfl
@[simp] theorem q73 {xs} : PV.isIo (PV.lst .io xs) = true := rfl
@[simp] theorem q74 {xs} : PV.own (PV.lst .io xs) = true := rfl
@[simp] theorem q75 {xs} : PV.isEmp (PV.lst .io xs) = false := rfl
@[simp] theorem q76 {xs} : PV.fl (PV.lst .io xs) = .io := rfl
@[simp] theorem q77 {xs} : PV.setFl .ow (PV.lst .io xs) = PV.lst .ow xs := rfl
@[simp] theorem q78 {xs} : PV.setFl .io (PV.lst .io xs) = PV.lst .io xs := rfl
@[simp] theorem q79 {xs} : PV.setFl .fz (PV.lst .io xs) = PV.lst .fz xs := rfl
@[simp] theorem q80 {xs} : fzOf (PV.lst .io xs) = none := rfl
@[simp] theorem q81 {xs} : kT (PV.lst .io xs) = "list" := rfl
@[simp] theorem q82 {ks xs} : PV.isIo (PV.dK .fz ks xs) = false := rfl
@[simp] theorem q83 {ks xs} : PV.own (PV.dK .fz ks xs) = false := rfl
@[simp] theorem q84 {ks xs} : PV.isEmp (PV.dK .fz ks xs) = false := rfl
@[simp] theorem q85 {ks xs} : PV.fl (PV.dK .fz ks xs) = .fz := rfl
@[simp] theorem q86 {ks xs} : PV.setFl .ow (PV.dK .fz ks xs) = PV.dK .ow ks xs := rfl
@[simp] theorem q87 {ks xs} : PV.setFl .io (PV.dK .fz ks xs) = PV.dK .io ks xs := rfl
@[simp] theorem q88 {ks xs} : PV.setFl .fz (PV.dK .fz ks xs) = PV.dK .fz ks xs := rfl
@[simp] theorem q89 {ks xs} : fzOf (PV.dK .fz ks xs) = some (PV.dK .fz ks xs) := rfl
@[simp] theorem q90 {ks xs} : kT (PV.dK .fz ks xs) = "dict" := rfl
@[simp] theorem q91 {ks xs} : PV.isIo (PV.dK .ow ks xs) = false := rfl
@[simp] theorem q92 {ks xs} : PV.own (PV.dK .ow ks xs) = true := rfl
@[simp] theorem q93 {ks xs} : PV.isEmp (PV.dK .ow ks xs) = false := rfl
@[simp] theorem q94 {ks xs} : PV.fl (PV.dK .ow ks xs) = .ow := rfl
@[simp] theorem q95 {ks xs} : PV.setFl .ow (PV.dK .ow ks xs) = PV.dK .ow ks xs := rfl
@[simp] theorem q96 {ks xs} : PV.setFl .io (PV.dK .ow ks xs) = PV.dK .io ks xs := rfl
@[simp] theorem q97 {ks xs} : PV.setFl .fz (PV.dK .ow ks xs) = PV.dK .fz ks xs := rfl
@[simp] theorem q98 {ks xs} : fzOf (PV.dK .ow ks xs) = some (PV.dK .fz ks xs) := rfl
@[simp] theorem q99 {ks xs} : kT (PV.dK .ow ks xs) = "dict" := rfl
@[simp] theorem q100 {ks xs} : PV.isIo (PV.dK .io ks xs) = true := rfl
@[simp] theorem q101 {ks xs} : PV.own (PV.dK .io ks xs) = true := rfl
@[simp] theorem q102 {ks xs} : PV.isEmp (PV.dK .io ks xs) = false := rfl
@[simp] theorem q103 {ks xs} : PV.fl (PV.dK .io ks xs) = .io := rfl
@[simp] theorem q104 {ks xs} : PV.setFl .ow (PV.dK .io ks xs) = PV.dK .ow ks xs := rfl
@[simp] theorem q105 {ks xs} : PV.setFl .io (PV.dK .io ks xs) = PV.dK .io ks xs := rfl
@[simp] theorem q106 {ks xs} : PV.setFl .fz (PV.dK .io ks xs) = PV.dK .fz ks xs := rfl
@[simp] theorem q107 {ks xs} : fzOf (PV.dK .io ks xs) = none := rfl
@[simp] theorem q108 {ks xs} : kT (PV.dK .io ks xs) = "dict" := rfl
@[simp] theorem q109 {ks xs} : PV.isIo (PV.dT .fz ks xs) = false := rfl
@[simp] theorem q110 {ks xs} : PV.own (PV.dT .fz ks xs) = false := rfl
@[simp] theorem q111 {ks xs} : PV.isEmp (PV.dT .fz ks xs) = false := rfl
@[simp] theorem q112 {ks xs} : PV.fl (PV.dT .fz ks xs) = .fz := rfl
@[simp] theorem q113 {ks xs} : PV.setFl .ow (PV.dT .fz ks xs) = PV.dT .ow ks xs := rfl
@[simp] theorem q114 {ks xs} : PV.setFl .io (PV.dT .fz ks xs) = PV.dT .io ks xs := rfl
@[simp] theorem q115 {ks xs} : PV.setFl .fz (PV.dT .fz ks xs) = PV.dT .fz ks xs := rfl
@[simp] theorem q116 {ks xs} : fzOf (PV.dT .fz ks xs) = some (PV.dT .fz ks xs) := rfl
@[simp] theorem q117 {ks xs} : kT (PV.dT .fz ks xs) = "dict" := rfl
@[simp] theorem q118 {ks xs} : PV.isIo (PV.dT .ow ks xs) = false := rfl
@[simp] theorem q119 {ks xs} : PV.own (PV.dT .ow ks xs) = true := rfl
@[simp] theorem q120 {ks xs} : PV.isEmp (PV.dT .ow ks xs) = false := rfl
@[simp] theorem q121 {ks xs} : PV.fl (PV.dT .ow ks xs) = .ow := rfl
@[simp] theorem q122 {ks xs} : PV.setFl .ow (PV.dT .ow ks xs) = PV.dT .ow ks xs := rfl
@[simp] theorem q123 {ks xs} : PV.setFl .io (PV.dT .ow ks xs) = PV.dT .io ks xs := rfl
@[simp] theorem q124 {ks xs} : PV.setFl .fz (PV.dT .ow ks xs) = PV.dT .fz ks xs := rfl
@[simp] theorem q125 {ks xs} : fzOf (PV.dT .ow ks xs) = some (PV.dT .fz ks xs) := rfl
@[simp] theorem q126 {ks xs} : kT (PV.dT .ow ks xs) = "dict" := rfl
@[simp] theorem q127 {ks xs} : PV.isIo (PV.dT .io ks xs) = true := rfl
@[simp] theorem q128 {ks xs} : PV.own (PV.dT .io ks xs) = true := rfl
@[simp] theorem q129 {ks xs} : PV.isEmp (PV.dT .io ks xs) = false := rfl
@[simp] theorem q130 {ks xs} : PV.fl (PV.dT .io ks xs) = .io := rfl
@[simp] theorem q131 {ks xs} : PV.setFl .ow (PV.dT .io ks xs) = PV.dT .ow ks xs := rfl
@[simp] theorem q132 {ks xs} : PV.setFl .io (PV.dT .io ks xs) = PV.dT .io ks xs := rfl
@[simp] theorem q133 {ks xs} : PV.setFl .fz (PV.dT .io ks xs) = PV.dT .fz ks xs := rfl
@[simp] theorem q134 {ks xs} : fzOf (PV.dT .io ks xs) = none := rfl
@[simp] theorem q135 {ks xs} : kT (PV.dT .io ks xs) = "dict" := rfl
@[simp] theorem q136 {c xs} : PV.isIo (PV.obj .fz c xs) = false := rfl
@[simp] theorem q137 {c xs} : PV.own (PV.obj .fz c xs) = false := rfl
@[simp] theorem q138 {c xs} : PV.isEmp (PV.obj .fz c xs) = false := rfl
@[simp] theorem q139 {c xs} : PV.fl (PV.obj .fz c xs) = .fz := rfl
@[simp] theorem q140 {c xs} : PV.setFl .ow (PV.obj .fz c xs) = PV.obj .ow c xs := rfl
@[simp] theorem q141 {c xs} : PV.setFl .io (PV.obj .fz c xs) = PV.obj .io c xs := rfl
@[simp] theorem q142 {c xs} : PV.setFl .fz (PV.obj .fz c xs) = PV.obj .fz c xs := rfl
@[simp] theorem q143 {c xs} : fzOf (PV.obj .fz c xs) = some (PV.obj .fz c xs) := rfl
@[simp] theorem q144 {c xs} : kT (PV.obj .fz c xs) = "" := rfl
@[simp] theorem q145 {c xs} : PV.isIo (PV.obj .ow c xs) = false := rfl
@[simp] theorem q146 {c xs} : PV.own (PV.obj .ow c xs) = true := rfl
@[simp] theorem q147 {c xs} : PV.isEmp (PV.obj .ow c xs) = false := rfl
@[simp] theorem q148 {c xs} : PV.fl (PV.obj .ow c xs) = .ow := rfl
@[simp] theorem q149 {c xs} : PV.setFl .ow (PV.obj .ow c xs) = PV.obj .ow c xs := rfl
@[simp] theorem q150 {c xs} : PV.setFl .io (PV.obj .ow c xs) = PV.obj .io c xs := rfl
@[simp] theorem q151 {c xs} : PV.setFl .fz (PV.obj .ow c xs) = PV.obj .fz c xs := rfl
@[simp] theorem q152 {c xs} : fzOf (PV.obj .ow c xs) = some (PV.obj .fz c xs) := rfl
@[simp] theorem q153 {c xs} : kT (PV.obj .ow c xs) = "" := rfl
@[simp] theorem q154 {c xs} : PV.isIo (PV.obj .io c xs) = true := rfl
@[simp] theorem q155 {c xs} : PV.own (PV.obj .io c xs) = true := rfl
@[simp] theorem q156 {c xs} : PV.isEmp (PV.obj .io c xs) = false := rfl
@[simp] theorem q157 {c xs} : PV.fl (PV.obj .io c xs) = .io := rfl
@[simp] theorem q158 {c xs} : PV.setFl .ow (PV.obj .io c xs) = PV.obj .ow c xs := rfl
@[simp] theorem q159 {c xs} : PV.setFl .io (PV.obj .io c xs) = PV.obj .io c xs := rfl
@[simp] theorem q160 {c xs} : PV.setFl .fz (PV.obj .io c xs) = PV.obj .fz c xs := rfl
@[simp] theorem q161 {c xs} : fzOf (PV.obj .io c xs) = none := rfl
@[simp] theorem q162 {c xs} : kT (PV.obj .io c xs) = "" := rfl
@[simp] theorem q163 {ns} : PV.isIo (PV.scr ns) = false := rfl
@[simp] theorem q164 {ns} : PV.own (PV.scr ns) = false := rfl
@[simp] theorem q165 {ns} : PV.isEmp (PV.scr ns) = false := rfl
@[simp] theorem q166 {ns} : PV.fl (PV.scr ns) = .fz := rfl
@[simp] theorem q167 {ns} : PV.setFl .ow (PV.scr ns) = (PV.scr ns) := rfl
@[simp] theorem q168 {ns} : PV.setFl .io (PV.scr ns) = (PV.scr ns) := rfl
@[simp] theorem q169 {ns} : PV.setFl .fz (PV.scr ns) = (PV.scr ns) := rfl
@[simp] theorem q170 {ns} : fzOf (PV.scr ns) = some (PV.scr ns) := rfl
@[simp] theorem q171 {ns} : kT (PV.scr ns) = "list" := rfl
@[simp] theorem q172 {n} : PV.isIo (PV.ty n) = false := rfl
@[simp] theorem q173 {n} : PV.own (PV.ty n) = false := rfl
@[simp] theorem q174 {n} : PV.isEmp (PV.ty n) = false := rfl
@[simp] theorem q175 {n} : PV.fl (PV.ty n) = .fz := rfl
@[simp] theorem q176 {n} : PV.setFl .ow (PV.ty n) = (PV.ty n) := rfl
@[simp] theorem q177 {n} : PV.setFl .io (PV.ty n) = (PV.ty n) := rfl
@[simp] theorem q178 {n} : PV.setFl .fz (PV.ty n) = (PV.ty n) := rfl
@[simp] theorem q179 {n} : fzOf (PV.ty n) = some (PV.ty n) := rfl
@[simp] theorem q180 {n} : kT (PV.ty n) = "" := rfl
@[simp] theorem q181 {c} : PV.isIo (PV.cls c) = false := rfl
@[simp] theorem q182 {c} : PV.own (PV.cls c) = false := rfl
@[simp] theorem q183 {c} : PV.isEmp (PV.cls c) = false := rfl
@[simp] theorem q184 {c} : PV.fl (PV.cls c) = .fz := rfl
@[simp] theorem q185 {c} : PV.setFl .ow (PV.cls c) = (PV.cls c) := rfl
@[simp] theorem q186 {c} : PV.setFl .io (PV.cls c) = (PV.cls c) := rfl
@[simp] theorem q187 {c} : PV.setFl .fz (PV.cls c) = (PV.cls c) := rfl
@[simp] theorem q188 {c} : fzOf (PV.cls c) = some (PV.cls c) := rfl
@[simp] theorem q189 {c} : kT (PV.cls c) = "" := rfl
@[simp] theorem q190 {d c xs} : PV.isIo (PV.err d c xs) = true := rfl
@[simp] theorem q191 {d c xs} : PV.own (PV.err d c xs) = true := rfl
@[simp] theorem q192 {d c xs} : PV.isEmp (PV.err d c xs) = false := rfl
@[simp] theorem q193 {d c xs} : PV.fl (PV.err d c xs) = .io := rfl
@[simp] theorem q194 {d c xs} : PV.setFl .ow (PV.err d c xs) = .emp := rfl
@[simp] theorem q195 {d c xs} : PV.setFl .io (PV.err d c xs) = .emp := rfl
@[simp] theorem q196 {d c xs} : PV.setFl .fz (PV.err d c xs) = .emp := rfl
@[simp] theorem q197 {d c xs} : fzOf (PV.err d c xs) = none := rfl
@[simp] theorem q198 {d c xs} : kT (PV.err d c xs) = "" := rfl
@[simp] theorem q_gN (i : Nat) (a : PV) (ρ : List PV) : gN i a ρ = if ((nth ρ i).isIo || a.isIo) = true then none else some (ρ.set i a) := rfl
@[simp] theorem q_set (i : Nat) (a : PV) (ρ : List PV) : setAt i a ρ = if ((nth ρ i).isIo || a.isIo) = true then none else some (ρ.set i a) := rfl
end VL

set_option Elab.async false
set_option linter.all false
set_option maxRecDepth 100000
namespace Law
open PySem PySem.Spec PyProof.Rows L2 VL
def tab_SIDES : List (Str × PV) := [("up", .tup [.str "newer", .str "older"]), ("down", .tup [.str "older", .str "newer"]), ("first", .tup [.str "older", .str "older"]), ("last", .tup [.str "newer", .str "newer"])]
def known : List String := ["BadForest", "BadPlace", "BadRecord"]
def flsE : List Str := ["place", "record"]
def ktabL : List ((String × String) × Bool) := [(("BadForest", "BadForest"), true), (("BadForest", "BadNumber"), false), (("BadForest", "BadPlace"), false), (("BadForest", "BadRecord"), false), (("BadForest", "BadSizes"), false), (("BadForest", "FieldridesError"), true), (("BadForest", "Marked"), false), (("BadForest", "NoRecord"), false), (("BadForest", "ValueError"), true), (("BadPlace", "BadForest"), false), (("BadPlace", "BadNumber"), false), (("BadPlace", "BadPlace"), true), (("BadPlace", "BadRecord"), false), (("BadPlace", "BadSizes"), false), (("BadPlace", "FieldridesError"), true), (("BadPlace", "Marked"), false), (("BadPlace", "NoRecord"), false), (("BadPlace", "ValueError"), true), (("BadRecord", "BadForest"), false), (("BadRecord", "BadNumber"), false), (("BadRecord", "BadPlace"), false), (("BadRecord", "BadRecord"), true), (("BadRecord", "BadSizes"), false), (("BadRecord", "FieldridesError"), true), (("BadRecord", "Marked"), false), (("BadRecord", "NoRecord"), false), (("BadRecord", "ValueError"), true)]
def ktab (c n : String) : Option Bool := ktabL.lookup (c, n)
def ftabL : List ((String × Str) × Nat) := [(("BadPlace", "place"), 0), (("BadRecord", "record"), 0)]
def ftab (c : String) (f : Str) : Option Nat := ftabL.lookup (c, f)
def kinL_BadPlace : List (String × Bool) := [("BadForest", false), ("BadPlace", true), ("BadRecord", false)]
def kin_BadPlace (c : String) : Option Bool := kinL_BadPlace.lookup c
theorem kn_BadPlace {c : String} (h : kin_BadPlace c = some true) : c ∈ known := (show c ∈ kinL_BadPlace.map Prod.fst from List.mem_map.mpr ⟨_, kin_known h, rfl⟩)
def kinL_BadRecord : List (String × Bool) := [("BadForest", false), ("BadPlace", false), ("BadRecord", true)]
def kin_BadRecord (c : String) : Option Bool := kinL_BadRecord.lookup c
theorem kn_BadRecord {c : String} (h : kin_BadRecord c = some true) : c ∈ known := (show c ∈ kinL_BadRecord.map Prod.fst from List.mem_map.mpr ⟨_, kin_known h, rfl⟩)
noncomputable section
def W__law_tape : M Fw := (sSeq (sIf (tB (eBin oLt (eN 1) (eFn oLen (aCons (eN 0) aNil)))) (sRet (eLst (aCons (eFn oAbs (aCons (eBin oIx (eN 0) (eN 1)) aNil)) (aCons (eC (.int 0)) aNil)))) sNx)
    (sRet (eLst (aCons (eN 1) (aCons (eC (.int 0)) aNil)))))
def F__law_tape : List PV → R PV := runF 2 2 W__law_tape
def W__law_take : M Fw := (sSeq (sSet 2 (eBin oIx (eN 0) (eC (.int 0))))
    (sSeq (sSub (eN 0) (eC (.int 1)) (eBin oAdd (eBin oIx (eN 0) (eC (.int 1))) (eC (.int 1))))
    (sSeq (sSet 3 (eBin oIx (eN 0) (eC (.int 1))))
    (sSeq (sIf (tB (eBin oGe (eN 2) (eBin oPow (eC (.int 10)) (eC (.int 18))))) (sSeq (sSub (eN 0) (eC (.int 0)) (eBin oDiv (eN 2) (eN 1)))
    (sRet (eBin oMod (eFn oInt (aCons (eN 2) aNil)) (eN 1)))) sNx)
    (sSeq (sSet 4 (eBin oMod (eFn oInt (aCons (eBin oAdd (eBin oAdd (eN 2) (eBin oMul (eC (.int 7919)) (eN 3))) (eC (.int 13))) aNil)) (eC (.int 2147483647))))
    (sSeq (sSet 4 (eBin oMod (eFn oInt (aCons (eBin oMul (eN 4) (eBin oAdd (eN 4) (eC (.int 48271)))) aNil)) (eC (.int 2147483629))))
    (sSeq (sSet 4 (eBin oMod (eFn oInt (aCons (eBin oAdd (eBin oMul (eN 4) (eBin oAdd (eN 4) (eC (.int 69621)))) (eBin oMul (eC (.int 31)) (eN 3))) aNil)) (eC (.int 2147483647))))
    (sRet (eBin oMod (eFn oInt (aCons (eBin oDiv (eN 4) (eC (.int 9))) aNil)) (eN 1))))))))))
def F__law_take : List PV → R PV := runF 2 5 W__law_take
def B__law_turns_1 : M Fw := (sE (eMu "list" uAppend (eN 3) (aCons (eMu "list" uPop1 (eN 2) (aCons (eCall F__law_take (aCons (eN 0) (aCons (eFn oLen (aCons (eN 2) aNil)) aNil))) aNil)) aNil)))
def W__law_turns : M Fw := (sSeq (sSet 2 (eRg1 false (eN 1)))
    (sSeq (sSet 3 (eLst aNil))
    (sSeq (sFor (iRg1 (aCons (eN 1) aNil)) (gN 4) B__law_turns_1)
    (sRet (eN 3)))))
def F__law_turns : List PV → R PV := runF 2 5 W__law_turns
def B__law_parents_1 : M Hd := (eC .non)
def B__law_parents_2 : M Fw := (sSeq (sSet 6 (eCall F__law_take (aCons (eN 0) (aCons (eBin oAdd (eN 5) (eC (.int 1))) aNil))))
    (sSeq (sIf (tB (eBin (oEq false) (eN 3) (eC (.int 0)))) (sSet 6 (eN 5)) sNx)
    (sSeq (sIf (tB (eBin (oEq false) (eN 3) (eC (.int 1)))) (sSet 6 (eC (.int 0))) sNx)
    (sIf (tB (eBin oGt (eN 6) (eC (.int 0)))) (sSub (eN 4) (eBin oIx (eN 2) (eN 5)) (eBin oIx (eN 2) (eBin oSub (eN 6) (eC (.int 1))))) sNx))))
def W__law_parents : M Fw := (sSeq (sSet 2 (eCall F__law_turns (aCons (eN 0) (aCons (eN 1) aNil))))
    (sSeq (sSet 3 (eCall F__law_take (aCons (eN 0) (aCons (eC (.int 4)) aNil))))
    (sSeq (sSet 4 (eLc (iRg1 (aCons (eN 1) aNil)) (gN 5) tYesV B__law_parents_1 [5]))
    (sSeq (sFor (iRg2 (aCons (eC (.int 1)) (aCons (eN 1) aNil))) (gN 5) B__law_parents_2)
    (sRet (eN 4))))))
def F__law_parents : List PV → R PV := runF 2 7 W__law_parents
def B__law_kinds_1 : M Fw := (sSeq (sSet 5 (eCall F__law_take (aCons (eN 0) (aCons (eC (.int 4)) aNil))))
    (sSeq (sIf (tOr (tE (eN 2)) (tB (eBin (oIn false) (eN 4) (eN 1)))) (sSet 5 (eBin oMod (eFn oInt (aCons (eN 5) aNil)) (eC (.int 2)))) sNx)
    (sE (eMu "list" uAppend (eN 3) (aCons (eBin oIx (eLst (aCons (eC (.str "up")) (aCons (eC (.str "down")) (aCons (eC (.str "first")) (aCons (eC (.str "last")) aNil))))) (eN 5)) aNil)))))
def W__law_kinds : M Fw := (sSeq (sSet 3 (eLst aNil))
    (sSeq (sFor (iRg1 (aCons (eFn oLen (aCons (eN 1) aNil)) aNil)) (gN 4) B__law_kinds_1)
    (sRet (eN 3))))
def F__law_kinds : List PV → R PV := runF 3 6 W__law_kinds
def W__law_value : M Fw := (sSeq (sSet 2 (eCall F__law_take (aCons (eN 0) (aCons (eC (.int 8)) aNil))))
    (sSeq (sIf (tB (eBin (oEq false) (eN 2) (eC (.int 0)))) (sRet (eBin oSub (eBin oMul (eCall F__law_take (aCons (eN 0) (aCons (eBin oPow (eC (.int 10)) (eC (.int 9))) aNil))) (eBin oPow (eC (.int 10)) (eC (.int 30)))) (eCall F__law_take (aCons (eN 0) (aCons (eBin oPow (eC (.int 10)) (eC (.int 9))) aNil))))) sNx)
    (sSeq (sIf (tB (eBin (oEq false) (eN 2) (eC (.int 1)))) (sRet (eBin oSub (eC (.int 0)) (eCall F__law_take (aCons (eN 0) (aCons (eN 1) aNil))))) sNx)
    (sRet (eCall F__law_take (aCons (eN 0) (aCons (eN 1) aNil)))))))
def F__law_value : List PV → R PV := runF 2 3 W__law_value
def B__law_record_1 : M Hd := (eCall F__law_value (aCons (eN 0) (aCons (eN 2) aNil)))
def W__law_record : M Fw := (sRet (eFn oTuple (aCons (eLc (iRg1 (aCons (eN 1) aNil)) (gN 3) tYesV B__law_record_1 [3]) aNil)))
def F__law_record : List PV → R PV := runF 3 4 W__law_record
def B__law_path_1 : M Fw := (sIf (tB (eBin (oIs true) (eBin oIx (eN 0) (eBin oIx (eN 2) (eC (.int 0)))) (eC .non))) (sE (eMu "list" uInsert (eN 2) (aCons (eC (.int 0)) (aCons (eBin oIx (eN 0) (eBin oIx (eN 2) (eC (.int 0)))) aNil)))) sNx)
def W__law_path : M Fw := (sSeq (sSet 2 (eLst (aCons (eN 1) aNil)))
    (sSeq (sFor (iRg1 (aCons (eFn oLen (aCons (eN 0) aNil)) aNil)) (gN 3) B__law_path_1)
    (sRet (eN 2))))
def F__law_path : List PV → R PV := runF 2 4 W__law_path
def B_way_ends_1 : M Fw := (sSeq (sIf (tB (eBin (oIs false) (eN 1) (eC .non))) (sRet (eC (.bl true))) sNx)
    (sSet 1 (eBin oIx (eN 0) (eN 1))))
def W_way_ends : M Fw := (sSeq (sForN 0 (gN 2) B_way_ends_1)
    (sRet (eBin (oIs false) (eN 1) (eC .non))))
def F_way_ends : List PV → R PV := runF 2 3 W_way_ends
def W_is_ranked : M Fw := (sRet (eOr (eBin (oEq false) (eN 0) (eC (.str "up"))) (eBin (oEq false) (eN 0) (eC (.str "down")))))
def F_is_ranked : List PV → R PV := runF 1 1 W_is_ranked
def B_check_forest_1 : M Fw := (sIf (tAnd (tB (eBin (oIs true) (eN 4) (eC .non))) (tOr (tB (eBin oLt (eN 4) (eC (.int 0)))) (tB (eBin oGe (eN 4) (eN 2))))) (sRaise1 "BadForest" fmtOk (aCons (eN 3) aNil)) sNx)
def B_check_forest_2 : M Fw := (sIf (tNot (tE (eCall F_way_ends (aCons (eN 0) (aCons (eN 3) aNil))))) (sRaise1 "BadForest" fmtOk (aCons (eN 3) aNil)) sNx)
def B_check_forest_3 : M Fw := (sIf (tAnd (tNot (tE (eCall F_is_ranked (aCons (eN 5) aNil)))) (tB (eBin (oIn false) (eN 3) (eN 0)))) (sRaise1 "BadForest" fmtOk (aCons (eN 3) aNil)) sNx)
def W_check_forest : M Fw := (sSeq (sSet 2 (eFn oLen (aCons (eN 0) aNil)))
    (sSeq (sIf (tOr (tB (eBin (oEq true) (eN 2) (eFn oLen (aCons (eN 1) aNil)))) (tOr (tB (eBin oLt (eN 2) (eC (.int 1)))) (tB (eBin oGt (eN 2) (eC (.int 16)))))) (sRaise1 "BadForest" fmtOk (aCons (eC .non) aNil)) sNx)
    (sSeq (sForE 0 (gT [(gN 3), (gN 4)]) B_check_forest_1)
    (sSeq (sFor (iRg1 (aCons (eN 2) aNil)) (gN 3) B_check_forest_2)
    (sForE 1 (gT [(gN 3), (gN 5)]) B_check_forest_3)))))
def F_check_forest : List PV → R PV := runF 2 6 W_check_forest
def W_Forest____init__ : M Fw := (sSeq (sE (eCall F_check_forest (aCons (eN 1) (aCons (eN 2) aNil))))
    (sSeq (sAt "Forest" 0 (eN 0) (eFn oLen (aCons (eN 1) aNil)))
    (sSeq (sAt "Forest" 1 (eN 0) (eFn oTuple (aCons (eN 1) aNil)))
    (sAt "Forest" 2 (eN 0) (eFn oTuple (aCons (eN 2) aNil))))))
def F_Forest____init__ : List PV → R PV := runF 3 3 W_Forest____init__
def W_check_place : M Fw := (sIf (tOr (tB (eBin oLt (eN 1) (eC (.int 0)))) (tB (eBin oGe (eN 1) (eN 0)))) (sRaise1 "BadPlace" fmtOk (aCons (eN 1) aNil)) sNx)
def F_check_place : List PV → R PV := runF 2 2 W_check_place
def W_check_record : M Fw := (sIf (tB (eBin (oEq true) (eFn oLen (aCons (eN 1) aNil)) (eN 0))) (sRaise1 "BadRecord" (fun _ => true) (aCons (eN 1) aNil)) sNx)
def F_check_record : List PV → R PV := runF 2 2 W_check_record
def W_sign : M Fw := (sSeq (sIf (tB (eBin oLt (eN 0) (eN 1))) (sRet (eUn oNeg (eC (.int 1)))) sNx)
    (sSeq (sIf (tB (eBin oGt (eN 0) (eN 1))) (sRet (eC (.int 1))) sNx)
    (sRet (eC (.int 0)))))
def F_sign : List PV → R PV := runF 2 2 W_sign
def B_signs_1 : M Hd := (eCall F_sign (aCons (eN 2) (aCons (eN 3) aNil)))
def W_signs : M Fw := (sSeq (sIf (tB (eBin (oEq true) (eFn oLen (aCons (eN 0) aNil)) (eFn oLen (aCons (eN 1) aNil)))) (sRaise1 "BadRecord" (fun _ => true) (aCons (eN 1) aNil)) sNx)
    (sRet (eFn oTuple (aCons (eLc (iZipV (aCons (eN 0) (aCons (eN 1) aNil))) (gT [(gN 2), (gN 3)]) tYesV B_signs_1 [2, 3]) aNil))))
def F_signs : List PV → R PV := runF 2 4 W_signs
def B_Forest__path_1 : M Fw := (sSet 2 (eBin oAdd (eTup (aCons (eBin oIx (eUn (oAt "Forest" 1) (eN 0)) (eBin oIx (eN 2) (eC (.int 0)))) aNil)) (eN 2)))
def B_Forest__path_2 : M Bool := (tB (eBin (oIs true) (eBin oIx (eUn (oAt "Forest" 1) (eN 0)) (eBin oIx (eN 2) (eC (.int 0)))) (eC .non)))
def W_Forest__path : M Fw := (sSeq (sSet 2 (eTup (aCons (eN 1) aNil)))
    (sSeq (sWh 1000 B_Forest__path_2 B_Forest__path_1)
    (sRet (eN 2))))
def F_Forest__path : List PV → R PV := runF 2 3 W_Forest__path
def B_first_marked_1 : M Fw := (sIf (tB (eBin (oEq true) (eBin oIx (eN 2) (eN 3)) (eC (.int 0)))) (sRet (eN 3)) sNx)
def W_first_marked : M Fw := (sSeq (sFor (iSeq (eMeth "Forest" F_Forest__path (eN 0) (aCons (eN 1) aNil))) (gN 3) B_first_marked_1)
    (sRet (eC .non)))
def F_first_marked : List PV → R PV := runF 3 4 W_first_marked
def W_first_unlike : M Fw := (sSeq (sE (eCall F_check_place (aCons (eUn (oAt "Forest" 0) (eN 0)) (aCons (eN 1) aNil))))
    (sSeq (sE (eCall F_check_record (aCons (eUn (oAt "Forest" 0) (eN 0)) (aCons (eN 2) aNil))))
    (sSeq (sE (eCall F_check_record (aCons (eUn (oAt "Forest" 0) (eN 0)) (aCons (eN 3) aNil))))
    (sRet (eCall F_first_marked (aCons (eN 0) (aCons (eN 1) (aCons (eCall F_signs (aCons (eN 2) (aCons (eN 3) aNil))) aNil))))))))
def F_first_unlike : List PV → R PV := runF 4 4 W_first_unlike
def B__law_unlike_1 : M Fw := (sIf (tB (eBin (oEq true) (eBin oIx (eN 2) (eN 4)) (eBin oIx (eN 3) (eN 4)))) (sRet (eN 4)) sNx)
def W__law_unlike : M Fw := (sSeq (sFor (iSeq (eCall F__law_path (aCons (eN 0) (aCons (eN 1) aNil)))) (gN 4) B__law_unlike_1)
    (sRet (eC .non)))
def F__law_unlike : List PV → R PV := runF 4 5 W__law_unlike
def W__law_is_integer : M Fw := (sRet (eAnd (eFn oIsi (aCons (eN 0) (aCons (eC (.ty "int")) aNil))) (eNot (eFn oIsi (aCons (eN 0) (aCons (eC (.ty "bool")) aNil))))))
def F__law_is_integer : List PV → R PV := runF 1 1 W__law_is_integer
def B__law_same_1 : M Fw := (sIf (tB (eBin (oIs false) (eBin oIx (eN 1) (eN 2)) (eC .non))) (sIf (tB (eBin (oIs true) (eBin oIx (eN 0) (eN 2)) (eC .non))) (sRet (eC (.bl false))) sNx) (sIf (tOr (tNot (tE (eCall F__law_is_integer (aCons (eBin oIx (eN 0) (eN 2)) aNil)))) (tB (eBin (oEq true) (eBin oIx (eN 0) (eN 2)) (eBin oIx (eN 1) (eN 2))))) (sRet (eC (.bl false))) sNx))
def W__law_same : M Fw := (sSeq (sIf (tOr (tNot (tE (eFn oIsi (aCons (eN 0) (aCons (eC (.ty "tuple")) aNil))))) (tB (eBin (oEq true) (eFn oLen (aCons (eN 0) aNil)) (eFn oLen (aCons (eN 1) aNil))))) (sRet (eC (.bl false))) sNx)
    (sSeq (sFor (iRg1 (aCons (eFn oLen (aCons (eN 1) aNil)) aNil)) (gN 2) B__law_same_1)
    (sRet (eC (.bl true)))))
def F__law_same : List PV → R PV := runF 2 3 W__law_same
def W_side_by : M Fw := (sSeq (sAsg (gT [(gN 2), (gN 3)]) (eKd tab_SIDES (eN 0)))
    (sRet (eIf (tB (eBin oLt (eN 1) (eC (.int 0)))) (eN 2) (eN 3))))
def F_side_by : List PV → R PV := runF 2 4 W_side_by
def W_forest_side : M Fw := (sSeq (sSet 3 (eCall F_first_marked (aCons (eN 0) (aCons (eN 1) (aCons (eN 2) aNil)))))
    (sSeq (sIf (tB (eBin (oIs false) (eN 3) (eC .non))) (sRet (eC (.str "same"))) sNx)
    (sRet (eCall F_side_by (aCons (eBin oIx (eUn (oAt "Forest" 2) (eN 0)) (eN 3)) (aCons (eBin oIx (eN 2) (eN 3)) aNil))))))
def F_forest_side : List PV → R PV := runF 3 4 W_forest_side
def B_Forest____call___1 : M Hd := (eIf (tB (eBin (oEq false) (eCall F_forest_side (aCons (eN 0) (aCons (eN 4) (aCons (eN 3) aNil)))) (eC (.str "newer")))) (eBin oIx (eN 2) (eN 4)) (eBin oIx (eN 1) (eN 4)))
def W_Forest____call__ : M Fw := (sSeq (sE (eCall F_check_record (aCons (eUn (oAt "Forest" 0) (eN 0)) (aCons (eN 1) aNil))))
    (sSeq (sE (eCall F_check_record (aCons (eUn (oAt "Forest" 0) (eN 0)) (aCons (eN 2) aNil))))
    (sSeq (sSet 3 (eCall F_signs (aCons (eN 1) (aCons (eN 2) aNil))))
    (sRet (eFn oTuple (aCons (eLc (iRg1 (aCons (eUn (oAt "Forest" 0) (eN 0)) aNil)) (gN 4) tYesV B_Forest____call___1 [4]) aNil))))))
def F_Forest____call__ : List PV → R PV := runF 3 5 W_Forest____call__
def B__law_is_record_1 : M Fw := (sIf (tNot (tE (eCall F__law_is_integer (aCons (eN 2) aNil)))) (sRet (eC (.bl false))) sNx)
def W__law_is_record : M Fw := (sSeq (sIf (tOr (tNot (tE (eFn oIsi (aCons (eN 0) (aCons (eC (.ty "tuple")) aNil))))) (tB (eBin (oEq true) (eFn oLen (aCons (eN 0) aNil)) (eN 1)))) (sRet (eC (.bl false))) sNx)
    (sSeq (sForN 0 (gN 2) B__law_is_record_1)
    (sRet (eC (.bl true)))))
def F__law_is_record : List PV → R PV := runF 2 3 W__law_is_record
def B__law_side_1 : M Fw := (sIf (tB (eBin (oEq true) (eBin oIx (eN 3) (eN 5)) (eBin oIx (eN 4) (eN 5)))) (sSeq (sIf (tB (eBin (oEq false) (eBin oIx (eN 1) (eN 5)) (eC (.str "first")))) (sRet (eC (.int 0))) sNx)
    (sSeq (sIf (tB (eBin (oEq false) (eBin oIx (eN 1) (eN 5)) (eC (.str "last")))) (sRet (eC (.int 1))) sNx)
    (sRet (eFn oInt (aCons (eBin (oEq true) (eBin oGt (eBin oIx (eN 3) (eN 5)) (eBin oIx (eN 4) (eN 5))) (eBin (oEq false) (eBin oIx (eN 1) (eN 5)) (eC (.str "up")))) aNil))))) sNx)
def W__law_side : M Fw := (sSeq (sFor (iSeq (eCall F__law_path (aCons (eN 0) (aCons (eN 2) aNil)))) (gN 5) B__law_side_1)
    (sRet (eC (.int 0))))
def F__law_side : List PV → R PV := runF 5 6 W__law_side
def B__law_merge_1 : M Hd := (eBin oIx (eBin oIx (eN 4) (eCall F__law_side (aCons (eN 0) (aCons (eN 1) (aCons (eN 5) (aCons (eN 2) (aCons (eN 3) aNil))))))) (eN 5))
def W__law_merge : M Fw := (sSeq (sSet 4 (eLst (aCons (eN 2) (aCons (eN 3) aNil))))
    (sRet (eFn oTuple (aCons (eLc (iRg1 (aCons (eFn oLen (aCons (eN 0) aNil)) aNil)) (gN 5) tYesV B__law_merge_1 [5]) aNil))))
def F__law_merge : List PV → R PV := runF 4 6 W__law_merge
def B__law_answers_1 : M Fw := (sSeq (sSet 6 (eCall F_first_unlike (aCons (eN 0) (aCons (eN 5) (aCons (eN 3) (aCons (eN 4) aNil))))))
    (sIf (tNot (tE (eCall F__law_same (aCons (eTup (aCons (eN 6) aNil)) (aCons (eLst (aCons (eCall F__law_unlike (aCons (eN 1) (aCons (eN 5) (aCons (eN 3) (aCons (eN 4) aNil))))) aNil)) aNil))))) (sRet (eC (.bl false))) sNx))
def W__law_answers : M Fw := (sSeq (sFor (iRg1 (aCons (eFn oLen (aCons (eN 1) aNil)) aNil)) (gN 5) B__law_answers_1)
    (sSeq (sSet 7 (eObj "Forest" F_Forest____call__ (eN 0) (aCons (eN 3) (aCons (eN 4) aNil))))
    (sRet (eAnd (eCall F__law_is_record (aCons (eN 7) (aCons (eFn oLen (aCons (eN 1) aNil)) aNil))) (eBin (oEq false) (eN 7) (eCall F__law_merge (aCons (eN 1) (aCons (eN 2) (aCons (eN 3) (aCons (eN 4) aNil))))))))))
def F__law_answers : List PV → R PV := runF 5 8 W__law_answers
def W__law_merged : M Fw := (sSeq (sTry (sSet 3 (eObj "Forest" F_Forest____call__ (eN 0) (aCons (eN 1) (aCons (eN 2) aNil)))) [(kin_BadRecord, 4, fun c d => (sSeq (sSet 5 (eAnd (eIsE ktab 4 c d (aCons (eN 4) (aCons (eC (.cls "FieldridesError")) aNil))) (eIsE ktab 4 c d (aCons (eN 4) (aCons (eC (.ty "ValueError")) aNil)))))
    (sRet (eLst (aCons (eC (.int 2)) (aCons (eFE ftab 4 c d "record" (eN 4)) (aCons (eAnd (eN 5) (eNot (eIsE ktab 4 c d (aCons (eN 4) (aCons (eTup (aCons (eC (.cls "BadForest")) (aCons (eC (.cls "BadNumber")) (aCons (eC (.cls "BadPlace")) (aCons (eC (.cls "BadSizes")) (aCons (eC (.cls "NoRecord")) aNil)))))) aNil))))) aNil)))))))])
    (sRet (eLst (aCons (eC (.int 0)) (aCons (eN 3) (aCons (eC (.bl true)) aNil))))))
def F__law_merged : List PV → R PV := runF 3 6 W__law_merged
def W__law_first : M Fw := (sSeq (sTry (sSet 4 (eCall F_first_unlike (aCons (eN 0) (aCons (eN 1) (aCons (eN 2) (aCons (eN 3) aNil)))))) [(kin_BadPlace, 5, fun c d => (sSeq (sSet 6 (eAnd (eIsE ktab 5 c d (aCons (eN 5) (aCons (eC (.cls "FieldridesError")) aNil))) (eIsE ktab 5 c d (aCons (eN 5) (aCons (eC (.ty "ValueError")) aNil)))))
    (sRet (eLst (aCons (eC (.int 1)) (aCons (eFE ftab 5 c d "place" (eN 5)) (aCons (eAnd (eN 6) (eNot (eIsE ktab 5 c d (aCons (eN 5) (aCons (eTup (aCons (eC (.cls "BadForest")) (aCons (eC (.cls "BadNumber")) (aCons (eC (.cls "BadRecord")) (aCons (eC (.cls "BadSizes")) (aCons (eC (.cls "Marked")) (aCons (eC (.cls "NoRecord")) aNil))))))) aNil))))) aNil))))))), (kin_BadRecord, 7, fun c d => (sSeq (sSet 6 (eAnd (eIsE ktab 7 c d (aCons (eN 7) (aCons (eC (.cls "FieldridesError")) aNil))) (eIsE ktab 7 c d (aCons (eN 7) (aCons (eC (.ty "ValueError")) aNil)))))
    (sRet (eLst (aCons (eC (.int 2)) (aCons (eFE ftab 7 c d "record" (eN 7)) (aCons (eAnd (eN 6) (eNot (eIsE ktab 7 c d (aCons (eN 7) (aCons (eTup (aCons (eC (.cls "BadForest")) (aCons (eC (.cls "BadNumber")) (aCons (eC (.cls "BadPlace")) (aCons (eC (.cls "BadSizes")) (aCons (eC (.cls "NoRecord")) aNil)))))) aNil))))) aNil)))))))])
    (sRet (eLst (aCons (eC (.int 0)) (aCons (eN 4) (aCons (eC (.bl true)) aNil))))))
def F__law_first : List PV → R PV := runF 4 8 W__law_first
def B__law_refuses_1 : M Fw := (sSeq (sSet 10 (eCall F__law_take (aCons (eN 3) (aCons (eC (.int 4)) aNil))))
    (sE (eMu "list" uAppend (eN 8) (aCons (eBin oIx (eLst (aCons (eSl (eN 9) none (some (eBin oSub (eN 5) (eC (.int 1))))) (aCons (eBin oAdd (eN 9) (eTup (aCons (eC (.int 0)) aNil))) (aCons (eN 9) (aCons (eN 9) aNil))))) (eN 10)) aNil))))
def B__law_refuses_2 : M Fw := (sSeq (sSet 11 (eCall F__law_first (aCons (eN 0) (aCons (eN 6) (aCons (eBin oIx (eN 8) (eC (.int 0))) (aCons (eBin oIx (eN 8) (eC (.int 1))) aNil))))))
    (sSeq (sIf (tOr (tB (eBin (oEq true) (eBin oIx (eN 11) (eC (.int 0))) (eBin oIx (eN 7) (eC (.int 0))))) (tNot (tE (eBin oIx (eN 11) (eC (.int 2)))))) (sRet (eC (.bl false))) sNx)
    (sSeq (sIf (tAnd (tB (eBin (oEq false) (eBin oIx (eN 7) (eC (.int 0))) (eC (.int 2)))) (tNot (tE (eCall F__law_same (aCons (eBin oIx (eN 11) (eC (.int 1))) (aCons (eBin oIx (eN 7) (eC (.int 1))) aNil)))))) (sRet (eC (.bl false))) sNx)
    (sSeq (sIf (tAnd (tB (eBin (oEq false) (eBin oIx (eN 7) (eC (.int 0))) (eC (.int 1)))) (tNot (tE (eCall F__law_same (aCons (eTup (aCons (eBin oIx (eN 11) (eC (.int 1))) aNil)) (aCons (eLst (aCons (eN 6) aNil)) aNil)))))) (sRet (eC (.bl false))) sNx)
    (sIf (tAnd (tB (eBin (oEq false) (eBin oIx (eN 7) (eC (.int 0))) (eC (.int 0)))) (tNot (tE (eCall F__law_same (aCons (eTup (aCons (eBin oIx (eN 11) (eC (.int 1))) aNil)) (aCons (eLst (aCons (eCall F__law_unlike (aCons (eN 1) (aCons (eN 6) (aCons (eBin oIx (eN 4) (eC (.int 0))) (aCons (eBin oIx (eN 4) (eC (.int 1))) aNil))))) aNil)) aNil)))))) (sRet (eC (.bl false))) sNx)))))
def W__law_refuses : M Fw := (sSeq (sSet 5 (eFn oLen (aCons (eN 1) aNil)))
    (sSeq (sSet 6 (eCall F__law_take (aCons (eN 3) (aCons (eN 5) aNil))))
    (sSeq (sSet 7 (eLst (aCons (eC (.int 0)) (aCons (eC .non) aNil))))
    (sSeq (sSet 8 (eLst aNil))
    (sSeq (sForN 4 (gN 9) B__law_refuses_1)
    (sSeq (sIf (tB (eBin (oEq true) (eFn oLen (aCons (eBin oIx (eN 8) (eC (.int 1))) aNil)) (eN 5))) (sSet 7 (eLst (aCons (eC (.int 2)) (aCons (eBin oIx (eN 8) (eC (.int 1))) aNil)))) sNx)
    (sSeq (sIf (tB (eBin (oEq true) (eFn oLen (aCons (eBin oIx (eN 8) (eC (.int 0))) aNil)) (eN 5))) (sSet 7 (eLst (aCons (eC (.int 2)) (aCons (eBin oIx (eN 8) (eC (.int 0))) aNil)))) sNx)
    (sSeq (sSet 11 (eCall F__law_merged (aCons (eN 0) (aCons (eBin oIx (eN 8) (eC (.int 0))) (aCons (eBin oIx (eN 8) (eC (.int 1))) aNil)))))
    (sSeq (sIf (tOr (tB (eBin (oEq true) (eBin oIx (eN 11) (eC (.int 0))) (eBin oIx (eN 7) (eC (.int 0))))) (tNot (tE (eBin oIx (eN 11) (eC (.int 2)))))) (sRet (eC (.bl false))) sNx)
    (sSeq (sIf (tAnd (tB (eBin (oEq false) (eBin oIx (eN 7) (eC (.int 0))) (eC (.int 2)))) (tNot (tE (eCall F__law_same (aCons (eBin oIx (eN 11) (eC (.int 1))) (aCons (eBin oIx (eN 7) (eC (.int 1))) aNil)))))) (sRet (eC (.bl false))) sNx)
    (sSeq (sIf (tB (eBin (oEq false) (eCall F__law_take (aCons (eN 3) (aCons (eC (.int 2)) aNil))) (eC (.int 1)))) (sSeq (sSet 6 (eBin oIx (eLst (aCons (eBin oSub (eC (.int 0)) (eC (.int 1))) (aCons (eN 5) (aCons (eBin oAdd (eN 5) (eBin oPow (eC (.int 10)) (eC (.int 20)))) (aCons (eBin oSub (eC (.int 0)) (eBin oPow (eC (.int 10)) (eC (.int 20)))) aNil))))) (eCall F__law_take (aCons (eN 3) (aCons (eC (.int 4)) aNil)))))
    (sSet 7 (eLst (aCons (eC (.int 1)) (aCons (eN 6) aNil))))) sNx)
    (sSeq (sFor (iRg1 (aCons (eC (.int 2)) aNil)) (gN 12) B__law_refuses_2)
    (sRet (eC (.bl true)))))))))))))))
def F__law_refuses : List PV → R PV := runF 5 13 W__law_refuses
def W_better : M Fw := (sSeq (sIf (tB (eBin (oEq false) (eN 0) (eC (.str "up")))) (sRet (eBin oGt (eN 1) (eN 2))) sNx)
    (sSeq (sIf (tB (eBin (oEq false) (eN 0) (eC (.str "down")))) (sRet (eBin oLt (eN 1) (eN 2))) sNx)
    (sRet (eC (.bl false)))))
def F_better : List PV → R PV := runF 3 3 W_better
def W_raised : M Fw := (sSeq (sIf (tB (eBin (oEq false) (eN 0) (eC (.str "down")))) (sRet (eBin oSub (eN 1) (eN 2))) sNx)
    (sRet (eBin oAdd (eN 1) (eN 2))))
def F_raised : List PV → R PV := runF 3 3 W_raised
def B__law_values_1 : M Fw := (sIf (tOr (tNot (tE (eFn oIsi (aCons (eBin oIx (eN 6) (eN 7)) (aCons (eC (.ty "bool")) aNil))))) (tB (eBin (oEq true) (eBin oIx (eN 6) (eN 7)) (eBin oIx (eN 5) (eN 7))))) (sRet (eC (.bl false))) sNx)
def B__law_values_2 : M Fw := (sSeq (sSet 5 (eLst (aCons (eOr (eAnd (eBin (oEq false) (eN 4) (eC (.str "up"))) (eBin oGt (eN 1) (eN 2))) (eAnd (eBin (oEq false) (eN 4) (eC (.str "down"))) (eBin oLt (eN 1) (eN 2)))) (aCons (eC (.bl false)) aNil))))
    (sSeq (sSet 6 (eLst (aCons (eCall F_better (aCons (eN 4) (aCons (eN 1) (aCons (eN 2) aNil)))) (aCons (eCall F_better (aCons (eN 4) (aCons (eN 1) (aCons (eN 1) aNil)))) aNil))))
    (sSeq (sFor (iRg1 (aCons (eC (.int 2)) aNil)) (gN 7) B__law_values_1)
    (sSeq (sSet 8 (eBin oAdd (eN 1) (eN 3)))
    (sSeq (sIf (tB (eBin (oEq false) (eN 4) (eC (.str "down")))) (sSet 8 (eBin oSub (eN 1) (eN 3))) sNx)
    (sIf (tNot (tE (eCall F__law_same (aCons (eTup (aCons (eCall F_raised (aCons (eN 4) (aCons (eN 1) (aCons (eN 3) aNil)))) aNil)) (aCons (eLst (aCons (eN 8) aNil)) aNil))))) (sRet (eC (.bl false))) sNx))))))
def W__law_values : M Fw := (sSeq (sSet 1 (eCall F__law_value (aCons (eN 0) (aCons (eC (.int 3)) aNil))))
    (sSeq (sSet 2 (eCall F__law_value (aCons (eN 0) (aCons (eC (.int 3)) aNil))))
    (sSeq (sSet 3 (eCall F__law_value (aCons (eN 0) (aCons (eC (.int 3)) aNil))))
    (sSeq (sFor (iSeq (eLst (aCons (eC (.str "up")) (aCons (eC (.str "down")) (aCons (eC (.str "first")) (aCons (eC (.str "last")) aNil)))))) (gN 4) B__law_values_2)
    (sRet (eC (.bl true)))))))
def F__law_values : List PV → R PV := runF 1 9 W__law_values
def B_law_1 : M Fw := (sSeq (sSet 5 (eCall F__law_parents (aCons (eN 1) (aCons (eN 2) aNil))))
    (sE (eMu "list" uAppend (eN 3) (aCons (eLst (aCons (eN 5) (aCons (eCall F__law_kinds (aCons (eCall F__law_tape (aCons (eN 0) (aCons (eBin oAdd (eC (.int 1)) (eBin oMul (eC (.int 3)) (eN 4))) aNil))) (aCons (eN 5) (aCons (eC (.bl false)) aNil)))) aNil))) aNil))))
def B_law_2 : M Fw := (sSub (eN 10) (eN 11) (eBin oIx (eN 6) (eN 11)))
def B_law_3 : M Hd := (eMake "Forest" true F_Forest____init__ (aCons (eFn oList (aCons (eBin oIx (eN 13) (eC (.int 0))) aNil)) (aCons (eFn oList (aCons (eBin oIx (eN 13) (eC (.int 1))) aNil)) aNil)))
def B_law_4 : M Fw := (sIf (tNot (tE (eCall F__law_answers (aCons (eBin oIx (eN 12) (eN 4)) (aCons (eBin oIx (eBin oIx (eN 3) (eN 4)) (eC (.int 0))) (aCons (eBin oIx (eBin oIx (eN 3) (eN 4)) (eC (.int 1))) (aCons (eBin oIx (eN 14) (eC (.int 0))) (aCons (eBin oIx (eN 14) (eC (.int 1))) aNil)))))))) (sRet (eC (.bl false))) sNx)
def B_law_5 : M Fw := (sFor (iRg1 (aCons (eC (.int 2)) aNil)) (gN 4) B_law_4)
def B_law_6 : M Fw := (sSeq (sIf (tNot (tE (eCall F__law_refuses (aCons (eBin oIx (eN 12) (eN 4)) (aCons (eBin oIx (eBin oIx (eN 3) (eN 4)) (eC (.int 0))) (aCons (eBin oIx (eBin oIx (eN 3) (eN 4)) (eC (.int 1))) (aCons (eN 15) (aCons (eLst (aCons (eN 6) (aCons (eN 7) aNil))) aNil)))))))) (sRet (eC (.bl false))) sNx)
    (sIf (tNot (tE (eCall F__law_answers (aCons (eBin oIx (eN 12) (eN 4)) (aCons (eBin oIx (eBin oIx (eN 3) (eN 4)) (eC (.int 0))) (aCons (eBin oIx (eBin oIx (eN 3) (eN 4)) (eC (.int 1))) (aCons (eN 6) (aCons (eN 7) aNil)))))))) (sRet (eC (.bl false))) sNx))
def W_law : M Fw := (sSeq (sSet 1 (eCall F__law_tape (aCons (eN 0) (aCons (eC (.int 0)) aNil))))
    (sSeq (sSet 2 (eBin oAdd (eC (.int 1)) (eCall F__law_take (aCons (eN 1) (aCons (eC (.int 6)) aNil)))))
    (sSeq (sIf (tB (eBin (oEq false) (eCall F__law_take (aCons (eN 1) (aCons (eC (.int 8)) aNil))) (eC (.int 0)))) (sSet 2 (eBin oAdd (eC (.int 7)) (eCall F__law_take (aCons (eN 1) (aCons (eC (.int 2)) aNil))))) sNx)
    (sSeq (sSet 3 (eLst aNil))
    (sSeq (sFor (iRg1 (aCons (eC (.int 2)) aNil)) (gN 4) B_law_1)
    (sSeq (sSet 6 (eCall F__law_record (aCons (eCall F__law_tape (aCons (eN 0) (aCons (eC (.int 2)) aNil))) (aCons (eN 2) (aCons (eC (.int 3)) aNil)))))
    (sSeq (sSet 7 (eCall F__law_record (aCons (eCall F__law_tape (aCons (eN 0) (aCons (eC (.int 3)) aNil))) (aCons (eN 2) (aCons (eC (.int 3)) aNil)))))
    (sSeq (sSet 8 (eCall F__law_take (aCons (eN 1) (aCons (eC (.int 6)) aNil))))
    (sSeq (sIf (tB (eBin oLt (eN 8) (eC (.int 2)))) (sSeq (sSet 9 (eCall F__law_path (aCons (eBin oIx (eBin oIx (eN 3) (eC (.int 0))) (eC (.int 0))) (aCons (eCall F__law_take (aCons (eN 1) (aCons (eN 2) aNil))) aNil))))
    (sSeq (sSet 10 (eFn oList (aCons (eN 7) aNil)))
    (sSeq (sFor (iSeq (eSl (eN 9) none (some (eBin oSub (eFn oLen (aCons (eN 9) aNil)) (eN 8))))) (gN 11) B_law_2)
    (sSet 7 (eFn oTuple (aCons (eN 10) aNil)))))) sNx)
    (sSeq (sSet 12 (eLc (iSeq (eN 3)) (gN 13) tYesV B_law_3 [13]))
    (sSeq (sFor (iSeq (eLst (aCons (eLst (aCons (eN 6) (aCons (eN 7) aNil))) (aCons (eLst (aCons (eN 7) (aCons (eN 6) aNil))) (aCons (eLst (aCons (eN 6) (aCons (eN 6) aNil))) (aCons (eLst (aCons (eN 6) (aCons (eN 7) aNil))) aNil)))))) (gN 14) B_law_5)
    (sSeq (sSet 15 (eCall F__law_tape (aCons (eN 0) (aCons (eC (.int 5)) aNil))))
    (sSeq (sFor (iRg1 (aCons (eC (.int 2)) aNil)) (gN 4) B_law_6)
    (sRet (eCall F__law_values (aCons (eCall F__law_tape (aCons (eN 0) (aCons (eC (.int 6)) aNil))) aNil))))))))))))))))
def F_law : List PV → R PV := runF 1 16 W_law
end
end Law

set_option Elab.async false
set_option linter.all false
set_option maxRecDepth 100000
namespace VL
open PySem PySem.Spec PyProof.Rows L2
@[simp] theorem oEq_int (neg : Bool) (i j : Int) : oEq neg (.int i) (.int j) = some (.bl (neg != (i == j))) := by
  have h1 : laid (.int i) = true := by simp [laid, dat, SeqAt.shaped, PyData.canLay0, PyData.depth]
  have h2 : laid (.int j) = true := by simp [laid, dat, SeqAt.shaped, PyData.canLay0, PyData.depth]
  unfold oEq
  rw [h1, h2]
  simp [dat, PyData.eqv]
@[simp] theorem oEq_bl (neg i j : Bool) : oEq neg (.bl i) (.bl j) = some (.bl (neg != (i == j))) := by
  have h1 : laid (.bl i) = true := by simp [laid, dat, SeqAt.shaped, PyData.canLay0, PyData.depth]
  have h2 : laid (.bl j) = true := by simp [laid, dat, SeqAt.shaped, PyData.canLay0, PyData.depth]
  unfold oEq
  rw [h1, h2]
  cases i <;> cases j <;> simp [dat, PyData.eqv]
theorem oEq_str (neg : Bool) (i j : Str) (hi : PyData.strOk i = true) (hj : PyData.strOk j = true) : oEq neg (.str i) (.str j) = some (.bl (neg != (i == j))) := by
  have h1 : laid (.str i) = true := by simp [laid, dat, SeqAt.shaped, PyData.canLay0, PyData.depth, hi, hj]
  have h2 : laid (.str j) = true := by simp [laid, dat, SeqAt.shaped, PyData.canLay0, PyData.depth, hi, hj]
  unfold oEq
  rw [h1, h2]
  simp [dat, PyData.eqv]
@[simp] theorem so_up : PyData.strOk "up" = true := by decide +kernel
@[simp] theorem so_down : PyData.strOk "down" = true := by decide +kernel
@[simp] theorem so_first : PyData.strOk "first" = true := by decide +kernel
@[simp] theorem so_last : PyData.strOk "last" = true := by decide +kernel
@[simp] theorem so_newer : PyData.strOk "newer" = true := by decide +kernel
@[simp] theorem so_older : PyData.strOk "older" = true := by decide +kernel
@[simp] theorem so_same : PyData.strOk "same" = true := by decide +kernel
@[simp] theorem oIs_non (neg : Bool) : oIs neg .non .non = some (.bl (!neg)) := rfl
@[simp] theorem oIs_int (neg : Bool) (i : Int) : oIs neg (.int i) .non = some (.bl neg) := rfl
@[simp] theorem oIs_tup (neg : Bool) (i : List PV) : oIs neg (.tup i) .non = some (.bl neg) := rfl
abbrev nP (i : Nat) : PV := .int (i : Int)
def pP : Option Nat → PV
  | none => .non
  | some p => .int (p : Int)
@[simp] theorem pP_none : pP none = .non := rfl
@[simp] theorem pP_some (p : Nat) : pP (some p) = .int (p : Int) := rfl
@[simp] theorem pP_io (p : Option Nat) : (pP p).isIo = false := by cases p <;> rfl
@[simp] theorem pP_own (p : Option Nat) : (pP p).own = false := by cases p <;> rfl
@[simp] theorem pP_fz (p : Option Nat) : (pP p).setFl .fz = pP p := by cases p <;> rfl
theorem rg_nat (n : Nat) : rgL 0 (n : Int) = (List.range n).map nP := by
  unfold rgL
  simp
theorem ixN_nat {m : Nat} {r : Int} (h0 : 0 ≤ r) (h1 : r < m) : L2.ixN m r = some r.toNat := by
  unfold L2.ixN
  rw [if_pos h0, if_pos h1]
theorem atI_lt {α : Type} {xs : List α} {r : Int} {x : α} (h0 : 0 ≤ r) (h : xs[r.toNat]? = some x) : L2.atI xs r = some x := by
  have := (List.getElem?_eq_some_iff.mp h).1
  unfold L2.atI
  rw [ixN_nat h0 (by omega)]
  exact h
theorem atI_n {α : Type} {xs : List α} {r : Nat} {x : α} (h : xs[r]? = some x) : L2.atI xs (r : Int) = some x := atI_lt (by omega) (by simpa using h)
@[simp] theorem sn_up_down : (("up" : Str) = "down") = False := eq_false (by decide +kernel)
@[simp] theorem sb_up_down : (("up" : Str) == "down") = false := by decide +kernel
@[simp] theorem sn_up_first : (("up" : Str) = "first") = False := eq_false (by decide +kernel)
@[simp] theorem sb_up_first : (("up" : Str) == "first") = false := by decide +kernel
@[simp] theorem sn_up_last : (("up" : Str) = "last") = False := eq_false (by decide +kernel)
@[simp] theorem sb_up_last : (("up" : Str) == "last") = false := by decide +kernel
@[simp] theorem sn_up_newer : (("up" : Str) = "newer") = False := eq_false (by decide +kernel)
@[simp] theorem sb_up_newer : (("up" : Str) == "newer") = false := by decide +kernel
@[simp] theorem sn_up_older : (("up" : Str) = "older") = False := eq_false (by decide +kernel)
@[simp] theorem sb_up_older : (("up" : Str) == "older") = false := by decide +kernel
@[simp] theorem sn_up_same : (("up" : Str) = "same") = False := eq_false (by decide +kernel)
@[simp] theorem sb_up_same : (("up" : Str) == "same") = false := by decide +kernel
@[simp] theorem sn_down_up : (("down" : Str) = "up") = False := eq_false (by decide +kernel)
@[simp] theorem sb_down_up : (("down" : Str) == "up") = false := by decide +kernel
@[simp] theorem sn_down_first : (("down" : Str) = "first") = False := eq_false (by decide +kernel)
@[simp] theorem sb_down_first : (("down" : Str) == "first") = false := by decide +kernel
@[simp] theorem sn_down_last : (("down" : Str) = "last") = False := eq_false (by decide +kernel)
@[simp] theorem sb_down_last : (("down" : Str) == "last") = false := by decide +kernel
@[simp] theorem sn_down_newer : (("down" : Str) = "newer") = False := eq_false (by decide +kernel)
@[simp] theorem sb_down_newer : (("down" : Str) == "newer") = false := by decide +kernel
@[simp] theorem sn_down_older : (("down" : Str) = "older") = False := eq_false (by decide +kernel)
@[simp] theorem sb_down_older : (("down" : Str) == "older") = false := by decide +kernel
@[simp] theorem sn_down_same : (("down" : Str) = "same") = False := eq_false (by decide +kernel)
@[simp] theorem sb_down_same : (("down" : Str) == "same") = false := by decide +kernel
@[simp] theorem sn_first_up : (("first" : Str) = "up") = False := eq_false (by decide +kernel)
@[simp] theorem sb_first_up : (("first" : Str) == "up") = false := by decide +kernel
@[simp] theorem sn_first_down : (("first" : Str) = "down") = False := eq_false (by decide +kernel)
@[simp] theorem sb_first_down : (("first" : Str) == "down") = false := by decide +kernel
@[simp] theorem sn_first_last : (("first" : Str) = "last") = False := eq_false (by decide +kernel)
@[simp] theorem sb_first_last : (("first" : Str) == "last") = false := by decide +kernel
@[simp] theorem sn_first_newer : (("first" : Str) = "newer") = False := eq_false (by decide +kernel)
@[simp] theorem sb_first_newer : (("first" : Str) == "newer") = false := by decide +kernel
@[simp] theorem sn_first_older : (("first" : Str) = "older") = False := eq_false (by decide +kernel)
@[simp] theorem sb_first_older : (("first" : Str) == "older") = false := by decide +kernel
@[simp] theorem sn_first_same : (("first" : Str) = "same") = False := eq_false (by decide +kernel)
@[simp] theorem sb_first_same : (("first" : Str) == "same") = false := by decide +kernel
@[simp] theorem sn_last_up : (("last" : Str) = "up") = False := eq_false (by decide +kernel)
@[simp] theorem sb_last_up : (("last" : Str) == "up") = false := by decide +kernel
@[simp] theorem sn_last_down : (("last" : Str) = "down") = False := eq_false (by decide +kernel)
@[simp] theorem sb_last_down : (("last" : Str) == "down") = false := by decide +kernel
@[simp] theorem sn_last_first : (("last" : Str) = "first") = False := eq_false (by decide +kernel)
@[simp] theorem sb_last_first : (("last" : Str) == "first") = false := by decide +kernel
@[simp] theorem sn_last_newer : (("last" : Str) = "newer") = False := eq_false (by decide +kernel)
@[simp] theorem sb_last_newer : (("last" : Str) == "newer") = false := by decide +kernel
@[simp] theorem sn_last_older : (("last" : Str) = "older") = False := eq_false (by decide +kernel)
@[simp] theorem sb_last_older : (("last" : Str) == "older") = false := by decide +kernel
@[simp] theorem sn_last_same : (("last" : Str) = "same") = False := eq_false (by decide +kernel)
@[simp] theorem sb_last_same : (("last" : Str) == "same") = false := by decide +kernel
@[simp] theorem sn_newer_up : (("newer" : Str) = "up") = False := eq_false (by decide +kernel)
@[simp] theorem sb_newer_up : (("newer" : Str) == "up") = false := by decide +kernel
@[simp] theorem sn_newer_down : (("newer" : Str) = "down") = False := eq_false (by decide +kernel)
@[simp] theorem sb_newer_down : (("newer" : Str) == "down") = false := by decide +kernel
@[simp] theorem sn_newer_first : (("newer" : Str) = "first") = False := eq_false (by decide +kernel)
@[simp] theorem sb_newer_first : (("newer" : Str) == "first") = false := by decide +kernel
@[simp] theorem sn_newer_last : (("newer" : Str) = "last") = False := eq_false (by decide +kernel)
@[simp] theorem sb_newer_last : (("newer" : Str) == "last") = false := by decide +kernel
@[simp] theorem sn_newer_older : (("newer" : Str) = "older") = False := eq_false (by decide +kernel)
@[simp] theorem sb_newer_older : (("newer" : Str) == "older") = false := by decide +kernel
@[simp] theorem sn_newer_same : (("newer" : Str) = "same") = False := eq_false (by decide +kernel)
@[simp] theorem sb_newer_same : (("newer" : Str) == "same") = false := by decide +kernel
@[simp] theorem sn_older_up : (("older" : Str) = "up") = False := eq_false (by decide +kernel)
@[simp] theorem sb_older_up : (("older" : Str) == "up") = false := by decide +kernel
@[simp] theorem sn_older_down : (("older" : Str) = "down") = False := eq_false (by decide +kernel)
@[simp] theorem sb_older_down : (("older" : Str) == "down") = false := by decide +kernel
@[simp] theorem sn_older_first : (("older" : Str) = "first") = False := eq_false (by decide +kernel)
@[simp] theorem sb_older_first : (("older" : Str) == "first") = false := by decide +kernel
@[simp] theorem sn_older_last : (("older" : Str) = "last") = False := eq_false (by decide +kernel)
@[simp] theorem sb_older_last : (("older" : Str) == "last") = false := by decide +kernel
@[simp] theorem sn_older_newer : (("older" : Str) = "newer") = False := eq_false (by decide +kernel)
@[simp] theorem sb_older_newer : (("older" : Str) == "newer") = false := by decide +kernel
@[simp] theorem sn_older_same : (("older" : Str) = "same") = False := eq_false (by decide +kernel)
@[simp] theorem sb_older_same : (("older" : Str) == "same") = false := by decide +kernel
@[simp] theorem sn_same_up : (("same" : Str) = "up") = False := eq_false (by decide +kernel)
@[simp] theorem sb_same_up : (("same" : Str) == "up") = false := by decide +kernel
@[simp] theorem sn_same_down : (("same" : Str) = "down") = False := eq_false (by decide +kernel)
@[simp] theorem sb_same_down : (("same" : Str) == "down") = false := by decide +kernel
@[simp] theorem sn_same_first : (("same" : Str) = "first") = False := eq_false (by decide +kernel)
@[simp] theorem sb_same_first : (("same" : Str) == "first") = false := by decide +kernel
@[simp] theorem sn_same_last : (("same" : Str) = "last") = False := eq_false (by decide +kernel)
@[simp] theorem sb_same_last : (("same" : Str) == "last") = false := by decide +kernel
@[simp] theorem sn_same_newer : (("same" : Str) = "newer") = False := eq_false (by decide +kernel)
@[simp] theorem sb_same_newer : (("same" : Str) == "newer") = false := by decide +kernel
@[simp] theorem sn_same_older : (("same" : Str) = "older") = False := eq_false (by decide +kernel)
@[simp] theorem sb_same_older : (("same" : Str) == "older") = false := by decide +kernel
theorem gN_ok {i : Nat} {a : PV} {ρ : List PV} (h1 : (nth ρ i).isIo = false) (h2 : a.isIo = false := by rfl) : gN i a ρ = some (ρ.set i a) := by
  show (if ((nth ρ i).isIo || a.isIo) = true then none else some (ρ.set i a)) = _
  rw [h1, h2]; rfl
end VL

set_option linter.all false
set_option maxRecDepth 100000
namespace Law
open VL
theorem p_take0 (c k n : Int) (o : Fl) (ho : o ≠ .fz) (hn : 0 < n) (hn2 : n < 1073741824) : ∃ x c', F__law_take [.lst o [.int c, .int k], .int n] = .ok (.int (x % n)) [.lst .ow [.int c', .int (k + 1)], .int n] := by
  have h0 : n ≠ 0 := by omega
  cases o with
  | fz => exact absurd rfl ho
  | _ =>
    unfold F__law_take W__law_take
    by_cases h : (1000000000000000000 : Int) ≤ c
    · refine ⟨c, c / n, ?_⟩
      simp [u_sSeq, u_sE, u_sSet, u_sRet, u_sRetN, u_sIf, u_sSub, u_sNx, u_sBk, u_sCt, u_eN, u_eC, u_eBin, u_eUn, u_eFn, u_eNot, u_eAnd, u_eOr, u_eIf, u_eTup, u_eLst, u_aCons, u_aNil, u_tB, u_tE, u_tNot, u_tAnd, u_tOr, keep, take, takes, hv, PV.toIo, PV.reFl, ofO, ofB, ofL, blOf, L2.atI, L2.ixN, oIx, oAdd, oSub, oMul, oMod, oDiv, oPow, oI, oB, oGe, oLt, oLe, oGt, oInt, exitF, exit1, u_eCall, okArgs, back, isSl, runF, lim, nth, oLen, oAbs, u_eMu, muEnd, uAppend, uPop1, uInsert, u_eRg1, oRg, u_sFor, u_iRg1, u_iRg2, u_iSeq, ofX, seqOf, u_eCh, u_eSl, u_eMeth, u_eProp, u_eMake, u_eObj, u_gT, u_sAsg, u_sAt, u_tYesV, u_eLc, u_eMt, u_sRaise1, u_iEnumV, u_iZipV, u_eKd, u_eIsE, u_eFE, h, hn, hn2]
    · simp [u_sSeq, u_sE, u_sSet, u_sRet, u_sRetN, u_sIf, u_sSub, u_sNx, u_sBk, u_sCt, u_eN, u_eC, u_eBin, u_eUn, u_eFn, u_eNot, u_eAnd, u_eOr, u_eIf, u_eTup, u_eLst, u_aCons, u_aNil, u_tB, u_tE, u_tNot, u_tAnd, u_tOr, keep, take, takes, hv, PV.toIo, PV.reFl, ofO, ofB, ofL, blOf, L2.atI, L2.ixN, oIx, oAdd, oSub, oMul, oMod, oDiv, oPow, oI, oB, oGe, oLt, oLe, oGt, oInt, exitF, exit1, u_eCall, okArgs, back, isSl, runF, lim, nth, oLen, oAbs, u_eMu, muEnd, uAppend, uPop1, uInsert, u_eRg1, oRg, u_sFor, u_iRg1, u_iRg2, u_iSeq, ofX, seqOf, u_eCh, u_eSl, u_eMeth, u_eProp, u_eMake, u_eObj, u_gT, u_sAsg, u_sAt, u_tYesV, u_eLc, u_eMt, u_sRaise1, u_iEnumV, u_iZipV, u_eKd, u_eIsE, u_eFE, h, hn, hn2, cm_mod, cm_mod2, cm_7919, cm_31]
      exact ⟨_, rfl⟩
theorem p_take (c k n : Int) (o : Fl) (ho : o ≠ .fz) (hn : 0 < n) (hn2 : n < 1073741824) : ∃ r c', F__law_take [.lst o [.int c, .int k], .int n] = .ok (.int r) [.lst .ow [.int c', .int (k + 1)], .int n] ∧ 0 ≤ r ∧ r < n := by
  obtain ⟨x, c', e⟩ := p_take0 c k n o ho hn hn2
  exact ⟨_, _, e, Int.emod_nonneg _ (by omega), Int.emod_lt_of_pos _ hn⟩
theorem p_tape (ns : List Int) (k : Int) (hk : 0 ≤ k) : ∃ c : Int, F__law_tape [.scr ns, .int k] = .ok (.lst .ow [.int c, .int 0]) [.scr ns, .int k] := by
  unfold F__law_tape W__law_tape
  by_cases h : k < ns.length
  · have h2 : ¬ k < 0 := by omega
    refine ⟨if ns[k.toNat]! < 0 then - ns[k.toNat]! else ns[k.toNat]!, ?_⟩
    have h3 : k.toNat < ns.length := by omega
    have e : ns[k.toNat]? = some ns[k.toNat]! := by simp [h3]
    simp [u_sSeq, u_sE, u_sSet, u_sRet, u_sRetN, u_sIf, u_sSub, u_sNx, u_sBk, u_sCt, u_eN, u_eC, u_eBin, u_eUn, u_eFn, u_eNot, u_eAnd, u_eOr, u_eIf, u_eTup, u_eLst, u_aCons, u_aNil, u_tB, u_tE, u_tNot, u_tAnd, u_tOr, keep, take, takes, hv, PV.toIo, PV.reFl, ofO, ofB, ofL, blOf, L2.atI, L2.ixN, oIx, oAdd, oSub, oMul, oMod, oDiv, oPow, oI, oB, oGe, oLt, oLe, oGt, oInt, exitF, exit1, u_eCall, okArgs, back, isSl, runF, lim, nth, oLen, oAbs, u_eMu, muEnd, uAppend, uPop1, uInsert, u_eRg1, oRg, u_sFor, u_iRg1, u_iRg2, u_iSeq, ofX, seqOf, u_eCh, u_eSl, u_eMeth, u_eProp, u_eMake, u_eObj, u_gT, u_sAsg, u_sAt, u_tYesV, u_eLc, u_eMt, u_sRaise1, u_iEnumV, u_iZipV, u_eKd, u_eIsE, u_eFE, oLen, oAbs, h, hk, h2, e]
    trace_state
  · refine ⟨k, ?_⟩
    simp [u_sSeq, u_sE, u_sSet, u_sRet, u_sRetN, u_sIf, u_sSub, u_sNx, u_sBk, u_sCt, u_eN, u_eC, u_eBin, u_eUn, u_eFn, u_eNot, u_eAnd, u_eOr, u_eIf, u_eTup, u_eLst, u_aCons, u_aNil, u_tB, u_tE, u_tNot, u_tAnd, u_tOr, keep, take, takes, hv, PV.toIo, PV.reFl, ofO, ofB, ofL, blOf, L2.atI, L2.ixN, oIx, oAdd, oSub, oMul, oMod, oDiv, oPow, oI, oB, oGe, oLt, oLe, oGt, oInt, exitF, exit1, u_eCall, okArgs, back, isSl, runF, lim, nth, oLen, oAbs, u_eMu, muEnd, uAppend, uPop1, uInsert, u_eRg1, oRg, u_sFor, u_iRg1, u_iRg2, u_iSeq, ofX, seqOf, u_eCh, u_eSl, u_eMeth, u_eProp, u_eMake, u_eObj, u_gT, u_sAsg, u_sAt, u_tYesV, u_eLc, u_eMt, u_sRaise1, u_iEnumV, u_iZipV, u_eKd, u_eIsE, u_eFE, oLen, oAbs, h, hk]
end Law

set_option linter.all false
set_option maxRecDepth 100000
namespace Law
open VL
theorem p_turns (c k : Int) (n : Nat) (hn : n ≤ 1000) (o : Fl) (ho : o ≠ .fz) : ∃ (ts : List Nat) (c' k' : Int), F__law_turns [.lst o [.int c, .int k], .int n] = .ok (.lst .ow (ts.map nP)) [.lst .ow [.int c', .int k'], .int n] ∧ ts.length = n ∧ ts.Nodup ∧ ∀ x ∈ ts, x < n := by
  have go : ∀ ρ, ρ = [.lst .io [.int c, .int k], .int n, .lst .ow ((List.range n).map nP), .lst .ow [], .emp] → ∃ ρ', loop (gN 4) B__law_turns_1 (rgL 0 n) ρ = .ok .nx ρ' ∧
      ∃ (c k : Int) (left ts : List Nat) (s4 : PV), s4.isIo = false ∧ ρ' = [.lst .io [.int c, .int k], .int n, .lst .ow (List.map nP left), .lst .ow (List.map nP ts), s4] ∧ (left ++ ts).Perm (List.range n) ∧ (ts.length : Int) = n := by
    rintro ρ rfl
    refine loop_rg (fun i ρ' => ∃ (c k : Int) (left ts : List Nat) (s4 : PV), s4.isIo = false ∧ ρ' = [.lst .io [.int c, .int k], .int n, .lst .ow (List.map nP left), .lst .ow (List.map nP ts), s4] ∧ (left ++ ts).Perm (List.range n) ∧ (ts.length : Int) = i) (by omega) ⟨c, k, List.range n, [], _, rfl, rfl, by simp, rfl⟩ ?_
    rintro i ρ h1 h2 ⟨c, k, left, ts, s4, h4, rfl, hp, hl⟩
    have hlen : left.length + ts.length = n := by have := hp.length_eq; simpa using this
    obtain ⟨r, c', e, r0, r1⟩ := p_take c k left.length .io (by decide) (by omega) (by omega)
    have hx := ixN_nat r0 r1
    have hr : r.toNat < left.length := by omega
    have h3 : r.natAbs ≤ 100000 := by omega
    refine ⟨[.lst .io [.int c, .int k], .int n, .lst .ow (List.map nP left), .lst .ow (List.map nP ts), .int i], [.lst .io [.int c', .int (k + 1)], .int n, .lst .ow (List.map nP (left.eraseIdx r.toNat)), .lst .ow (List.map nP (ts ++ [left[r.toNat]])), .int i], ?_, ?_, c', k + 1, _, _, _, rfl, rfl, ?_, by simp; omega⟩
    · simp [u_sSeq, u_sE, u_sSet, u_sRet, u_sRetN, u_sIf, u_sSub, u_sNx, u_sBk, u_sCt, u_eN, u_eC, u_eBin, u_eUn, u_eFn, u_eNot, u_eAnd, u_eOr, u_eIf, u_eTup, u_eLst, u_aCons, u_aNil, u_tB, u_tE, u_tNot, u_tAnd, u_tOr, keep, take, takes, hv, PV.toIo, PV.reFl, ofO, ofB, ofL, blOf, L2.atI, L2.ixN, oIx, oAdd, oSub, oMul, oMod, oDiv, oPow, oI, oB, oGe, oLt, oLe, oGt, oInt, exitF, exit1, u_eCall, okArgs, back, isSl, runF, lim, nth, oLen, oAbs, u_eMu, muEnd, uAppend, uPop1, uInsert, u_eRg1, oRg, u_sFor, u_iRg1, u_iRg2, u_iSeq, ofX, seqOf, u_eCh, u_eSl, u_eMeth, u_eProp, u_eMake, u_eObj, u_gT, u_sAsg, u_sAt, u_tYesV, u_eLc, u_eMt, u_sRaise1, u_iEnumV, u_iZipV, u_eKd, u_eIsE, u_eFE, h4]
    · unfold B__law_turns_1
      have h5 : ts.length < 100000 := by omega
      have h6 : left[r.toNat]? = some left[r.toNat] := List.getElem?_eq_getElem hr
      simp [u_sSeq, u_sE, u_sSet, u_sRet, u_sRetN, u_sIf, u_sSub, u_sNx, u_sBk, u_sCt, u_eN, u_eC, u_eBin, u_eUn, u_eFn, u_eNot, u_eAnd, u_eOr, u_eIf, u_eTup, u_eLst, u_aCons, u_aNil, u_tB, u_tE, u_tNot, u_tAnd, u_tOr, keep, take, takes, hv, PV.toIo, PV.reFl, ofO, ofB, ofL, blOf, L2.atI, L2.ixN, oIx, oAdd, oSub, oMul, oMod, oDiv, oPow, oI, oB, oGe, oLt, oLe, oGt, oInt, exitF, exit1, u_eCall, okArgs, back, isSl, runF, lim, nth, oLen, oAbs, u_eMu, muEnd, uAppend, uPop1, uInsert, u_eRg1, oRg, u_sFor, u_iRg1, u_iRg2, u_iSeq, ofX, seqOf, u_eCh, u_eSl, u_eMeth, u_eProp, u_eMake, u_eObj, u_gT, u_sAsg, u_sAt, u_tYesV, u_eLc, u_eMt, u_sRaise1, u_iEnumV, u_iZipV, u_eKd, u_eIsE, u_eFE, e, r0, r1, h3, h5, h6, My.eraseIdx_map]
    · have z := My.eraseIdx_perm hr
      have z2 : (left.eraseIdx r.toNat ++ (ts ++ [left[r.toNat]])).Perm (left[r.toNat] :: left.eraseIdx r.toNat ++ ts) := by
        rw [← List.append_assoc]
        exact (List.perm_append_comm.trans (by simp))
      exact z2.trans ((z.append_right ts).trans hp)
  have h1 : n ≤ 100000 := by omega
  obtain ⟨ρ', e, c', k', left, ts, s4, h4, rfl, hp, hl⟩ := go _ rfl
  have hl : ts.length = n := by omega
  have hlen : left.length + ts.length = n := by have := hp.length_eq; simpa using this
  obtain rfl : left = [] := List.length_eq_zero_iff.mp (by omega)
  have hp : ts.Perm (List.range n) := by simpa using hp
  refine ⟨ts, c', k', ?_, hl, hp.nodup_iff.mpr List.nodup_range, fun x hx => List.mem_range.mp (hp.mem_iff.mp hx)⟩
  unfold F__law_turns W__law_turns
  cases o with
  | fz => exact absurd rfl ho
  | _ =>
    rw [rg_nat] at e
    simp [u_sSeq, u_sE, u_sSet, u_sRet, u_sRetN, u_sIf, u_sSub, u_sNx, u_sBk, u_sCt, u_eN, u_eC, u_eBin, u_eUn, u_eFn, u_eNot, u_eAnd, u_eOr, u_eIf, u_eTup, u_eLst, u_aCons, u_aNil, u_tB, u_tE, u_tNot, u_tAnd, u_tOr, keep, take, takes, hv, PV.toIo, PV.reFl, ofO, ofB, ofL, blOf, L2.atI, L2.ixN, oIx, oAdd, oSub, oMul, oMod, oDiv, oPow, oI, oB, oGe, oLt, oLe, oGt, oInt, exitF, exit1, u_eCall, okArgs, back, isSl, runF, lim, nth, oLen, oAbs, u_eMu, muEnd, uAppend, uPop1, uInsert, u_eRg1, oRg, u_sFor, u_iRg1, u_iRg2, u_iSeq, ofX, seqOf, u_eCh, u_eSl, u_eMeth, u_eProp, u_eMake, u_eObj, u_gT, u_sAsg, u_sAt, u_tYesV, u_eLc, u_eMt, u_sRaise1, u_iEnumV, u_iZipV, u_eKd, u_eIsE, u_eFE, h1, rg_nat, e]
    trace_state
end Law

set_option linter.all false
set_option maxRecDepth 100000
namespace Law
open VL
theorem p_parents (c k : Int) (n : Nat) (hn1 : 1 ≤ n) (hn : n ≤ 1000) (o : Fl) (ho : o ≠ .fz) : ∃ (ps : List (Option Nat)) (c' k' : Int), F__law_parents [.lst o [.int c, .int k], .int n] = .ok (.lst .ow (ps.map pP)) [.lst .ow [.int c', .int k'], .int n] ∧ ps.length = n ∧ My.Acy ps := by
  obtain ⟨ts, c1, k1, e1, lt, nd, hm⟩ := p_turns c k n hn .io (by decide)
  obtain ⟨bd, c2, e2, b0, b1⟩ := p_take c1 k1 4 .io (by decide) (by omega) (by omega)
  have go1 : lcl (gN 5) tYesV B__law_parents_1 [5] (rgL 0 n) [] [.lst .io [.int c2, .int (k1 + 1)], .int n, .lst .ow (ts.map nP), .int bd, .emp, .emp, .emp] = .ok (List.replicate n .non) [.lst .io [.int c2, .int (k1 + 1)], .int n, .lst .ow (ts.map nP), .int bd, .emp, .emp, .emp] := by
    obtain ⟨ys, ρ', e, e3, e4⟩ := lcl_rg (t := gN 5) (tt := tYesV) (fe := B__law_parents_1) (own := [5]) (acc := []) (a := 0) (b := n) (ρ := [.lst .io [.int c2, .int (k1 + 1)], .int n, .lst .ow (ts.map nP), .int bd, .emp, .emp, .emp])
      (fun i acc ρ => acc = List.replicate i.toNat .non ∧ ρ = [.lst .io [.int c2, .int (k1 + 1)], .int n, .lst .ow (ts.map nP), .int bd, .emp, .emp, .emp]) (by omega) ⟨rfl, rfl⟩ (by
        rintro i acc ρ h1 h2 ⟨rfl, rfl⟩
        refine ⟨_, _, _, _, _, _, rfl, rfl, rfl, rfl, by simp [lim]; omega, ?_, rfl⟩
        rw [show (i + 1).toNat = i.toNat + 1 from by omega, List.replicate_succ']
        rfl)
    rw [e, e3, e4]
    simp
  obtain ⟨ρ', e3, c', k', ps, s5, s6, i5, i6, rfl, lp, hp⟩ := loop_rg (t := gN 5) (f := B__law_parents_2) (a := 1) (b := n) (ρ := [.lst .io [.int c2, .int (k1 + 1)], .int n, .lst .ow (ts.map nP), .int bd, .lst .ow (List.replicate n .non), .emp, .emp])
    (fun i ρ' => ∃ (c k : Int) (ps : List (Option Nat)) (s5 s6 : PV), s5.isIo = false ∧ s6.isIo = false ∧ ρ' = [.lst .io [.int c, .int k], .int n, .lst .ow (ts.map nP), .int bd, .lst .ow (ps.map pP), s5, s6] ∧ ps.length = n ∧ ∀ i p : Nat, My.par ps i = some p → ∃ a b : Nat, a < b ∧ ts[a]? = some p ∧ ts[b]? = some i)
    (by omega) ⟨c2, k1 + 1, List.replicate n none, .emp, .emp, rfl, rfl, by simp, by simp, fun i p h => by
      unfold My.par at h
      rw [List.getElem?_replicate] at h
      split at h <;> cases h⟩ (by
    rintro i ρ h1 h2 ⟨c, k, ps, s5, s6, i5, i6, rfl, lp, hp⟩
    obtain ⟨r, c', e, r0, r1⟩ := p_take c k (i + 1) .io (by decide) (by omega) (by omega)
    have key : ∀ pk : Int, 0 ≤ pk → pk ≤ i → ∃ ρ2, sIf (tB (eBin oGt (eN 6) (eC (.int 0)))) (sSub (eN 4) (eBin oIx (eN 2) (eN 5)) (eBin oIx (eN 2) (eBin oSub (eN 6) (eC (.int 1))))) sNx [.lst .io [.int c', .int (k + 1)], .int n, .lst .ow (ts.map nP), .int bd, .lst .ow (ps.map pP), .int i, .int pk] = .ok .nx ρ2 ∧
        ∃ (c k : Int) (ps : List (Option Nat)) (s5 s6 : PV), s5.isIo = false ∧ s6.isIo = false ∧ ρ2 = [.lst .io [.int c, .int k], .int n, .lst .ow (ts.map nP), .int bd, .lst .ow (ps.map pP), s5, s6] ∧ ps.length = n ∧ ∀ i p : Nat, My.par ps i = some p → ∃ a b : Nat, a < b ∧ ts[a]? = some p ∧ ts[b]? = some i := by
      intro pk p0 p1
      by_cases hpk : 0 < pk
      · obtain ⟨a, ha⟩ : ∃ a, ts[(pk - 1).toNat]? = some a := ⟨_, List.getElem?_eq_getElem (by omega)⟩
        obtain ⟨b, hb⟩ : ∃ b, ts[i.toNat]? = some b := ⟨_, List.getElem?_eq_getElem (by omega)⟩
        have hbn : b < n := hm b (List.mem_of_getElem? hb)
        have x1 : L2.atI (ts.map nP) (pk - 1) = some (nP a) := atI_lt (by omega) (by rw [List.getElem?_map, ha]; rfl)
        have x2 : L2.atI (ts.map nP) i = some (nP b) := atI_lt (by omega) (by rw [List.getElem?_map, hb]; rfl)
        have x3 : L2.ixN ps.length (b : Int) = some b := by rw [ixN_nat (by omega) (by omega)]; simp
        refine ⟨_, ?_, c', k + 1, ps.set b (some a), .int i, .int pk, rfl, rfl, rfl, by simpa using lp, fun j p hj => ?_⟩
        · simp [u_sSeq, u_sE, u_sSet, u_sRet, u_sRetN, u_sIf, u_sSub, u_sNx, u_sBk, u_sCt, u_eN, u_eC, u_eBin, u_eUn, u_eFn, u_eNot, u_eAnd, u_eOr, u_eIf, u_eTup, u_eLst, u_aCons, u_aNil, u_tB, u_tE, u_tNot, u_tAnd, u_tOr, keep, take, takes, hv, PV.toIo, PV.reFl, ofO, ofB, ofL, blOf, oIx, oAdd, oSub, oMul, oMod, oDiv, oPow, oI, oB, oGe, oLt, oLe, oGt, oInt, exitF, exit1, u_eCall, okArgs, back, isSl, runF, lim, nth, oLen, oAbs, u_eMu, muEnd, uAppend, uPop1, uInsert, u_eRg1, oRg, u_sFor, u_iRg1, u_iRg2, u_iSeq, ofX, seqOf, u_eCh, u_eSl, u_eMeth, u_eProp, u_eMake, u_eObj, u_gT, u_sAsg, u_sAt, u_tYesV, u_eLc, u_eMt, u_sRaise1, u_iEnumV, u_iZipV, u_eKd, u_eIsE, u_eFE, hpk, x1, x2, x3, List.map_set]
        · rw [My.par_set (by omega)] at hj
          split at hj
          · rename_i ej
            subst ej
            cases hj
            exact ⟨_, _, by omega, ha, hb⟩
          · exact hp j p hj
      · refine ⟨_, ?_, c', k + 1, ps, .int i, .int pk, rfl, rfl, rfl, lp, hp⟩
        simp [u_sSeq, u_sE, u_sSet, u_sRet, u_sRetN, u_sIf, u_sSub, u_sNx, u_sBk, u_sCt, u_eN, u_eC, u_eBin, u_eUn, u_eFn, u_eNot, u_eAnd, u_eOr, u_eIf, u_eTup, u_eLst, u_aCons, u_aNil, u_tB, u_tE, u_tNot, u_tAnd, u_tOr, keep, take, takes, hv, PV.toIo, PV.reFl, ofO, ofB, ofL, blOf, oIx, oAdd, oSub, oMul, oMod, oDiv, oPow, oI, oB, oGe, oLt, oLe, oGt, oInt, exitF, exit1, u_eCall, okArgs, back, isSl, runF, lim, nth, oLen, oAbs, u_eMu, muEnd, uAppend, uPop1, uInsert, u_eRg1, oRg, u_sFor, u_iRg1, u_iRg2, u_iSeq, ofX, seqOf, u_eCh, u_eSl, u_eMeth, u_eProp, u_eMake, u_eObj, u_gT, u_sAsg, u_sAt, u_tYesV, u_eLc, u_eMt, u_sRaise1, u_iEnumV, u_iZipV, u_eKd, u_eIsE, u_eFE, hpk]
    unfold B__law_parents_2
    refine ⟨[.lst .io [.int c, .int k], .int n, .lst .ow (ts.map nP), .int bd, .lst .ow (ps.map pP), .int i, s6], ?_⟩
    by_cases q1 : bd = 0
    · obtain ⟨ρ2, k1, k2⟩ := key i (by omega) (by omega)
      refine ⟨ρ2, by simp [u_sSeq, u_sE, u_sSet, u_sRet, u_sRetN, u_sIf, u_sSub, u_sNx, u_sBk, u_sCt, u_eN, u_eC, u_eBin, u_eUn, u_eFn, u_eNot, u_eAnd, u_eOr, u_eIf, u_eTup, u_eLst, u_aCons, u_aNil, u_tB, u_tE, u_tNot, u_tAnd, u_tOr, keep, take, takes, hv, PV.toIo, PV.reFl, ofO, ofB, ofL, blOf, oIx, oAdd, oSub, oMul, oMod, oDiv, oPow, oI, oB, oGe, oLt, oLe, oGt, oInt, exitF, exit1, u_eCall, okArgs, back, isSl, runF, lim, nth, oLen, oAbs, u_eMu, muEnd, uAppend, uPop1, uInsert, u_eRg1, oRg, u_sFor, u_iRg1, u_iRg2, u_iSeq, ofX, seqOf, u_eCh, u_eSl, u_eMeth, u_eProp, u_eMake, u_eObj, u_gT, u_sAsg, u_sAt, u_tYesV, u_eLc, u_eMt, u_sRaise1, u_iEnumV, u_iZipV, u_eKd, u_eIsE, u_eFE, i5], ?_, k2⟩
      rw [← k1]
      simp [u_sSeq, u_sE, u_sSet, u_sRet, u_sRetN, u_sIf, u_sSub, u_sNx, u_sBk, u_sCt, u_eN, u_eC, u_eBin, u_eUn, u_eFn, u_eNot, u_eAnd, u_eOr, u_eIf, u_eTup, u_eLst, u_aCons, u_aNil, u_tB, u_tE, u_tNot, u_tAnd, u_tOr, keep, take, takes, hv, PV.toIo, PV.reFl, ofO, ofB, ofL, blOf, oIx, oAdd, oSub, oMul, oMod, oDiv, oPow, oI, oB, oGe, oLt, oLe, oGt, oInt, exitF, exit1, u_eCall, okArgs, back, isSl, runF, lim, nth, oLen, oAbs, u_eMu, muEnd, uAppend, uPop1, uInsert, u_eRg1, oRg, u_sFor, u_iRg1, u_iRg2, u_iSeq, ofX, seqOf, u_eCh, u_eSl, u_eMeth, u_eProp, u_eMake, u_eObj, u_gT, u_sAsg, u_sAt, u_tYesV, u_eLc, u_eMt, u_sRaise1, u_iEnumV, u_iZipV, u_eKd, u_eIsE, u_eFE, e, i6, q1]
    · by_cases q2 : bd = 1
      · obtain ⟨ρ2, k1, k2⟩ := key 0 (by omega) (by omega)
        refine ⟨ρ2, by simp [u_sSeq, u_sE, u_sSet, u_sRet, u_sRetN, u_sIf, u_sSub, u_sNx, u_sBk, u_sCt, u_eN, u_eC, u_eBin, u_eUn, u_eFn, u_eNot, u_eAnd, u_eOr, u_eIf, u_eTup, u_eLst, u_aCons, u_aNil, u_tB, u_tE, u_tNot, u_tAnd, u_tOr, keep, take, takes, hv, PV.toIo, PV.reFl, ofO, ofB, ofL, blOf, oIx, oAdd, oSub, oMul, oMod, oDiv, oPow, oI, oB, oGe, oLt, oLe, oGt, oInt, exitF, exit1, u_eCall, okArgs, back, isSl, runF, lim, nth, oLen, oAbs, u_eMu, muEnd, uAppend, uPop1, uInsert, u_eRg1, oRg, u_sFor, u_iRg1, u_iRg2, u_iSeq, ofX, seqOf, u_eCh, u_eSl, u_eMeth, u_eProp, u_eMake, u_eObj, u_gT, u_sAsg, u_sAt, u_tYesV, u_eLc, u_eMt, u_sRaise1, u_iEnumV, u_iZipV, u_eKd, u_eIsE, u_eFE, i5], ?_, k2⟩
        rw [← k1]
        simp [u_sSeq, u_sE, u_sSet, u_sRet, u_sRetN, u_sIf, u_sSub, u_sNx, u_sBk, u_sCt, u_eN, u_eC, u_eBin, u_eUn, u_eFn, u_eNot, u_eAnd, u_eOr, u_eIf, u_eTup, u_eLst, u_aCons, u_aNil, u_tB, u_tE, u_tNot, u_tAnd, u_tOr, keep, take, takes, hv, PV.toIo, PV.reFl, ofO, ofB, ofL, blOf, oIx, oAdd, oSub, oMul, oMod, oDiv, oPow, oI, oB, oGe, oLt, oLe, oGt, oInt, exitF, exit1, u_eCall, okArgs, back, isSl, runF, lim, nth, oLen, oAbs, u_eMu, muEnd, uAppend, uPop1, uInsert, u_eRg1, oRg, u_sFor, u_iRg1, u_iRg2, u_iSeq, ofX, seqOf, u_eCh, u_eSl, u_eMeth, u_eProp, u_eMake, u_eObj, u_gT, u_sAsg, u_sAt, u_tYesV, u_eLc, u_eMt, u_sRaise1, u_iEnumV, u_iZipV, u_eKd, u_eIsE, u_eFE, e, i6, q1, q2]
      · obtain ⟨ρ2, k1, k2⟩ := key r (by omega) (by omega)
        refine ⟨ρ2, by simp [u_sSeq, u_sE, u_sSet, u_sRet, u_sRetN, u_sIf, u_sSub, u_sNx, u_sBk, u_sCt, u_eN, u_eC, u_eBin, u_eUn, u_eFn, u_eNot, u_eAnd, u_eOr, u_eIf, u_eTup, u_eLst, u_aCons, u_aNil, u_tB, u_tE, u_tNot, u_tAnd, u_tOr, keep, take, takes, hv, PV.toIo, PV.reFl, ofO, ofB, ofL, blOf, oIx, oAdd, oSub, oMul, oMod, oDiv, oPow, oI, oB, oGe, oLt, oLe, oGt, oInt, exitF, exit1, u_eCall, okArgs, back, isSl, runF, lim, nth, oLen, oAbs, u_eMu, muEnd, uAppend, uPop1, uInsert, u_eRg1, oRg, u_sFor, u_iRg1, u_iRg2, u_iSeq, ofX, seqOf, u_eCh, u_eSl, u_eMeth, u_eProp, u_eMake, u_eObj, u_gT, u_sAsg, u_sAt, u_tYesV, u_eLc, u_eMt, u_sRaise1, u_iEnumV, u_iZipV, u_eKd, u_eIsE, u_eFE, i5], ?_, k2⟩
        rw [← k1]
        simp [u_sSeq, u_sE, u_sSet, u_sRet, u_sRetN, u_sIf, u_sSub, u_sNx, u_sBk, u_sCt, u_eN, u_eC, u_eBin, u_eUn, u_eFn, u_eNot, u_eAnd, u_eOr, u_eIf, u_eTup, u_eLst, u_aCons, u_aNil, u_tB, u_tE, u_tNot, u_tAnd, u_tOr, keep, take, takes, hv, PV.toIo, PV.reFl, ofO, ofB, ofL, blOf, oIx, oAdd, oSub, oMul, oMod, oDiv, oPow, oI, oB, oGe, oLt, oLe, oGt, oInt, exitF, exit1, u_eCall, okArgs, back, isSl, runF, lim, nth, oLen, oAbs, u_eMu, muEnd, uAppend, uPop1, uInsert, u_eRg1, oRg, u_sFor, u_iRg1, u_iRg2, u_iSeq, ofX, seqOf, u_eCh, u_eSl, u_eMeth, u_eProp, u_eMake, u_eObj, u_gT, u_sAsg, u_sAt, u_tYesV, u_eLc, u_eMt, u_sRaise1, u_iEnumV, u_iZipV, u_eKd, u_eIsE, u_eFE, e, i6, q1, q2])
  refine ⟨ps, c', k', ?_, lp, My.acy_of nd (by omega) (fun t ht => by rw [lp]; exact hm t ht) hp⟩
  have h1 : n ≤ 100000 := by omega
  unfold F__law_parents W__law_parents
  cases o with
  | fz => exact absurd rfl ho
  | _ => simp [u_sSeq, u_sE, u_sSet, u_sRet, u_sRetN, u_sIf, u_sSub, u_sNx, u_sBk, u_sCt, u_eN, u_eC, u_eBin, u_eUn, u_eFn, u_eNot, u_eAnd, u_eOr, u_eIf, u_eTup, u_eLst, u_aCons, u_aNil, u_tB, u_tE, u_tNot, u_tAnd, u_tOr, keep, take, takes, hv, PV.toIo, PV.reFl, ofO, ofB, ofL, blOf, oIx, oAdd, oSub, oMul, oMod, oDiv, oPow, oI, oB, oGe, oLt, oLe, oGt, oInt, exitF, exit1, u_eCall, okArgs, back, isSl, runF, lim, nth, oLen, oAbs, u_eMu, muEnd, uAppend, uPop1, uInsert, u_eRg1, oRg, u_sFor, u_iRg1, u_iRg2, u_iSeq, ofX, seqOf, u_eCh, u_eSl, u_eMeth, u_eProp, u_eMake, u_eObj, u_gT, u_sAsg, u_sAt, u_tYesV, u_eLc, u_eMt, u_sRaise1, u_iEnumV, u_iZipV, u_eKd, u_eIsE, u_eFE, e1, e2, wipeQ, restP, go1, h1, e3]
end Law

set_option linter.all false
set_option maxRecDepth 100000
namespace Law
open VL PySem
theorem hasIn_par (ps : List (Option Nat)) (i : Nat) : hasIn (ps.map pP) (.int (i : Int)) = decide (some i ∈ ps) := by
  induction ps with
  | nil => rfl
  | cons p ps ih =>
    have e : hasIn (pP p :: ps.map pP) (.int (i : Int)) = (PyData.eqv (dat (pP p)) (.int (i : Int)) || hasIn (ps.map pP) (.int (i : Int))) := by simp [hasIn]
    rw [List.map_cons, e, ih]
    cases p with
    | none => simp [PyData.eqv]
    | some q =>
      simp [PyData.eqv]
      by_cases h : i = q
      · simp [h]
      · have : ¬ (q : Int) = (i : Int) := by omega
        simp [h, this]
theorem flat_par (ps : List (Option Nat)) : (ps.map pP).all flat = true := by
  rw [List.all_map, List.all_eq_true]
  intro p _
  cases p <;> rfl
theorem oIn_par (neg : Bool) (o : Fl) (ps : List (Option Nat)) (i : Nat) : oIn neg (.int (i : Int)) (.lst o (ps.map pP)) = some (.bl (neg != decide (some i ∈ ps))) := by
  simp only [oIn]
  rw [flat_par, hasIn_par]
  simp [flat]
theorem oIn_parT (neg : Bool) (ps : List (Option Nat)) (i : Nat) : oIn neg (.int (i : Int)) (.tup (ps.map pP)) = some (.bl (neg != decide (some i ∈ ps))) := by
  simp only [oIn]
  rw [flat_par, hasIn_par]
  simp [flat]
def word4 (s : Str) : Prop := s = "up" ∨ s = "down" ∨ s = "first" ∨ s = "last"
def ranked (s : Str) : Prop := s = "up" ∨ s = "down"
structure KOk (ps : List (Option Nat)) (ks : List Str) : Prop where
  len : ks.length = ps.length
  w : ∀ k ∈ ks, word4 k
  r : ∀ (i : Nat) (k : Str), ks[i]? = some k → some i ∈ ps → ranked k
theorem four {r : Int} (h0 : 0 ≤ r) (h1 : r < 4) : ∃ s : Str, L2.atI [PV.str "up", PV.str "down", PV.str "first", PV.str "last"] r = some (.str s) ∧ word4 s ∧ (r < 2 → ranked s) := by
  have h : r = 0 ∨ r = 1 ∨ r = 2 ∨ r = 3 := by omega
  rcases h with h | h | h | h
  · subst h; exact ⟨_, rfl, .inl rfl, fun _ => .inl rfl⟩
  · subst h; exact ⟨_, rfl, .inr (.inl rfl), fun _ => .inr rfl⟩
  · subst h; exact ⟨_, rfl, .inr (.inr (.inl rfl)), fun z => absurd z (by decide)⟩
  · subst h; exact ⟨_, rfl, .inr (.inr (.inr rfl)), fun z => absurd z (by decide)⟩
theorem p_kinds (c k : Int) (ps : List (Option Nat)) (hn : ps.length ≤ 1000) (o : Fl) (ho : o ≠ .fz) : ∃ (ks : List Str) (c' k' : Int), F__law_kinds [.lst o [.int c, .int k], .lst .ow (ps.map pP), .bl false] = .ok (.lst .ow (ks.map .str)) [.lst .ow [.int c', .int k'], .lst .ow (ps.map pP), .bl false] ∧ KOk ps ks := by
  obtain ⟨ρ', e3, c', k', ks, s4, s5, i4, i5, rfl, lk, hw, hr⟩ := loop_rg (t := gN 4) (f := B__law_kinds_1) (a := 0) (b := ps.length) (ρ := [.lst .io [.int c, .int k], .lst .io (ps.map pP), .bl false, .lst .ow [], .emp, .emp])
    (fun i ρ' => ∃ (c k : Int) (ks : List Str) (s4 s5 : PV), s4.isIo = false ∧ s5.isIo = false ∧ ρ' = [.lst .io [.int c, .int k], .lst .io (ps.map pP), .bl false, .lst .ow (ks.map .str), s4, s5] ∧ (ks.length : Int) = i ∧ (∀ k ∈ ks, word4 k) ∧ ∀ (i : Nat) (k : Str), ks[i]? = some k → some i ∈ ps → ranked k)
    (by omega) ⟨c, k, [], _, _, rfl, rfl, rfl, rfl, by simp, by simp⟩ (by
    rintro i ρ h1 h2 ⟨c, k, ks, s4, s5, i4, i5, rfl, lk, hw, hr⟩
    obtain ⟨r, c', e, r0, r1⟩ := p_take c k 4 .io (by decide) (by omega) (by omega)
    obtain ⟨m, rfl⟩ : ∃ m : Nat, i = m := ⟨i.toNat, by omega⟩
    have hm : ks.length = m := by omega
    subst hm
    have h5 : ks.length < 100000 := by omega
    have fin : ∀ (s : Str) (pk : Int), word4 s → (some ks.length ∈ ps → ranked s) → ∃ (c1 k1 : Int) (ks1 : List Str) (s4 s5 : PV), s4.isIo = false ∧ s5.isIo = false ∧ ([.lst .io [.int c', .int (k + 1)], .lst .io (ps.map pP), .bl false, .lst .ow ((ks ++ [s]).map .str), .int (ks.length : Int), .int pk] : List PV) = [.lst .io [.int c1, .int k1], .lst .io (ps.map pP), .bl false, .lst .ow (ks1.map .str), s4, s5] ∧ (ks1.length : Int) = (ks.length : Int) + 1 ∧ (∀ k ∈ ks1, word4 k) ∧ ∀ (i : Nat) (k : Str), ks1[i]? = some k → some i ∈ ps → ranked k := by
      intro s pk w4 rk
      refine ⟨c', k + 1, ks ++ [s], _, _, rfl, rfl, rfl, by simp, ?_, ?_⟩
      · intro x hx
        rcases List.mem_append.mp hx with hx | hx
        · exact hw x hx
        · rw [List.mem_singleton.mp hx]; exact w4
      · intro j x hj hp
        rw [List.getElem?_append] at hj
        split at hj
        · exact hr j x hj hp
        · have : j = ks.length ∧ x = s := by
            rw [List.getElem?_singleton] at hj
            split at hj
            · cases hj; exact ⟨by omega, rfl⟩
            · cases hj
          obtain ⟨rfl, rfl⟩ := this
          exact rk hp
    unfold B__law_kinds_1
    by_cases hin : some ks.length ∈ ps
    · have q0 : 0 ≤ r % 2 := by omega
      have q1 : r % 2 < 2 := by omega
      obtain ⟨s, hs, w4, rk⟩ := four q0 (by omega)
      refine ⟨_, _, gN_ok i4, ?_, fin s (r % 2) w4 fun _ => rk q1⟩
      simp [u_sSeq, u_sE, u_sSet, u_sRet, u_sRetN, u_sIf, u_sSub, u_sNx, u_sBk, u_sCt, u_eN, u_eC, u_eBin, u_eUn, u_eFn, u_eNot, u_eAnd, u_eOr, u_eIf, u_eTup, u_eLst, u_aCons, u_aNil, u_tB, u_tE, u_tNot, u_tAnd, u_tOr, keep, take, takes, hv, PV.toIo, PV.reFl, ofO, ofB, ofL, blOf, oIx, oAdd, oSub, oMul, oMod, oDiv, oPow, oI, oB, oGe, oLt, oLe, oGt, oInt, exitF, exit1, u_eCall, okArgs, back, isSl, runF, lim, nth, oLen, oAbs, u_eMu, muEnd, uAppend, uPop1, uInsert, u_eRg1, oRg, u_sFor, u_iRg1, u_iRg2, u_iSeq, ofX, seqOf, u_eCh, u_eSl, u_eMeth, u_eProp, u_eMake, u_eObj, u_gT, u_sAsg, u_sAt, u_tYesV, u_eLc, u_eMt, u_sRaise1, u_iEnumV, u_iZipV, u_eKd, u_eIsE, u_eFE, e, i5, oIn_par, hin, h5, hs, tru]
    · obtain ⟨s, hs, w4, rk⟩ := four r0 r1
      refine ⟨_, _, gN_ok i4, ?_, fin s r w4 fun z => absurd z hin⟩
      simp [u_sSeq, u_sE, u_sSet, u_sRet, u_sRetN, u_sIf, u_sSub, u_sNx, u_sBk, u_sCt, u_eN, u_eC, u_eBin, u_eUn, u_eFn, u_eNot, u_eAnd, u_eOr, u_eIf, u_eTup, u_eLst, u_aCons, u_aNil, u_tB, u_tE, u_tNot, u_tAnd, u_tOr, keep, take, takes, hv, PV.toIo, PV.reFl, ofO, ofB, ofL, blOf, oIx, oAdd, oSub, oMul, oMod, oDiv, oPow, oI, oB, oGe, oLt, oLe, oGt, oInt, exitF, exit1, u_eCall, okArgs, back, isSl, runF, lim, nth, oLen, oAbs, u_eMu, muEnd, uAppend, uPop1, uInsert, u_eRg1, oRg, u_sFor, u_iRg1, u_iRg2, u_iSeq, ofX, seqOf, u_eCh, u_eSl, u_eMeth, u_eProp, u_eMake, u_eObj, u_gT, u_sAsg, u_sAt, u_tYesV, u_eLc, u_eMt, u_sRaise1, u_iEnumV, u_iZipV, u_eKd, u_eIsE, u_eFE, e, i5, oIn_par, hin, h5, hs, tru])
  have lk : ks.length = ps.length := by omega
  refine ⟨ks, c', k', ?_, lk, hw, hr⟩
  have h1 : ps.length ≤ 100000 := by omega
  unfold F__law_kinds W__law_kinds
  cases o with
  | fz => exact absurd rfl ho
  | _ => simp [u_sSeq, u_sE, u_sSet, u_sRet, u_sRetN, u_sIf, u_sSub, u_sNx, u_sBk, u_sCt, u_eN, u_eC, u_eBin, u_eUn, u_eFn, u_eNot, u_eAnd, u_eOr, u_eIf, u_eTup, u_eLst, u_aCons, u_aNil, u_tB, u_tE, u_tNot, u_tAnd, u_tOr, keep, take, takes, hv, PV.toIo, PV.reFl, ofO, ofB, ofL, blOf, oIx, oAdd, oSub, oMul, oMod, oDiv, oPow, oI, oB, oGe, oLt, oLe, oGt, oInt, exitF, exit1, u_eCall, okArgs, back, isSl, runF, lim, nth, oLen, oAbs, u_eMu, muEnd, uAppend, uPop1, uInsert, u_eRg1, oRg, u_sFor, u_iRg1, u_iRg2, u_iSeq, ofX, seqOf, u_eCh, u_eSl, u_eMeth, u_eProp, u_eMake, u_eObj, u_gT, u_sAsg, u_sAt, u_tYesV, u_eLc, u_eMt, u_sRaise1, u_iEnumV, u_iZipV, u_eKd, u_eIsE, u_eFE, h1, e3]
end Law

set_option linter.all false
set_option maxRecDepth 100000
namespace Law
open VL PySem My
theorem par_atP {ps : List (Option Nat)} {i : Nat} (h : i < ps.length) : L2.atI (ps.map pP) (i : Int) = some (pP (par ps i)) := atI_n (by rw [List.getElem?_map, par_get h]; rfl)
theorem p_path (ps : List (Option Nat)) (i : Nat) (ac : Acy ps) (hn : ps.length ≤ 1000) (hi : i < ps.length) : F__law_path [.lst .fz (ps.map pP), .int (i : Int)] = .ok (.lst .ow ((path ps i).map nP)) [.lst .fz (ps.map pP), .int (i : Int)] := by
  obtain ⟨r, r1, r2⟩ := ac.rk
  have hri := r1 i hi
  obtain ⟨ρ', e3, j, rest, s3, i3, rfl, hp, hj, hr⟩ := loop_rg (t := gN 3) (f := B__law_path_1) (a := 0) (b := ps.length) (ρ := [.lst .fz (ps.map pP), .int i, .lst .ow [.int i], .emp])
    (fun k ρ' => ∃ (j : Nat) (rest : List Nat) (s3 : PV), s3.isIo = false ∧ ρ' = [.lst .fz (ps.map pP), .int i, .lst .ow (.int j :: rest.map nP), s3] ∧ path ps i = path ps j ++ rest ∧ j < ps.length ∧ (par ps j = none ∨ (r j : Int) + k ≤ r i))
    (by omega) ⟨i, [], _, rfl, rfl, by simp, hi, .inr (by omega)⟩ (by
    rintro k ρ h1 h2 ⟨j, rest, s3, i3, rfl, hp, hj, hr⟩
    have ln : rest.length < ps.length := by
      have h1 : (path ps i).length = (path ps j).length + rest.length := by rw [hp, List.length_append]
      have h2 : 0 < (path ps j).length := List.length_pos_iff.mpr (path_ne _ _)
      have h3 := path_len ac hi
      omega
    have h5 : rest.length + 1 < 100000 := by omega
    have x0 : L2.atI (.int (j : Int) :: rest.map nP) 0 = some (.int (j : Int)) := atI_lt (by omega) rfl
    have x1 := par_atP hj
    unfold B__law_path_1
    cases e : par ps j with
    | none =>
      rw [e] at x1
      refine ⟨_, _, gN_ok i3, ?_, j, rest, .int k, rfl, rfl, hp, hj, .inl e⟩
      simp [u_sSeq, u_sE, u_sSet, u_sRet, u_sRetN, u_sIf, u_sSub, u_sNx, u_sBk, u_sCt, u_eN, u_eC, u_eBin, u_eUn, u_eFn, u_eNot, u_eAnd, u_eOr, u_eIf, u_eTup, u_eLst, u_aCons, u_aNil, u_tB, u_tE, u_tNot, u_tAnd, u_tOr, keep, take, takes, hv, PV.toIo, PV.reFl, ofO, ofB, ofL, blOf, oIx, oAdd, oSub, oMul, oMod, oDiv, oPow, oI, oB, oGe, oLt, oLe, oGt, oInt, exitF, exit1, u_eCall, okArgs, back, isSl, runF, lim, nth, oLen, oAbs, u_eMu, muEnd, uAppend, uPop1, uInsert, u_eRg1, oRg, u_sFor, u_iRg1, u_iRg2, u_iSeq, ofX, seqOf, u_eCh, u_eSl, u_eMeth, u_eProp, u_eMake, u_eObj, u_gT, u_sAsg, u_sAt, u_tYesV, u_eLc, u_eMt, u_sRaise1, u_iEnumV, u_iZipV, u_eKd, u_eIsE, u_eFE, x0, x1]
    | some p =>
      rw [e] at x1
      have hp' := r2 e
      have hr' : (r j : Int) + k ≤ r i := hr.resolve_left (fun z => by rw [e] at z; cases z)
      refine ⟨_, _, gN_ok i3, ?_, p, j :: rest, .int k, rfl, rfl, ?_, ac.lt e, .inr (by omega)⟩
      · simp [u_sSeq, u_sE, u_sSet, u_sRet, u_sRetN, u_sIf, u_sSub, u_sNx, u_sBk, u_sCt, u_eN, u_eC, u_eBin, u_eUn, u_eFn, u_eNot, u_eAnd, u_eOr, u_eIf, u_eTup, u_eLst, u_aCons, u_aNil, u_tB, u_tE, u_tNot, u_tAnd, u_tOr, keep, take, takes, hv, PV.toIo, PV.reFl, ofO, ofB, ofL, blOf, oIx, oAdd, oSub, oMul, oMod, oDiv, oPow, oI, oB, oGe, oLt, oLe, oGt, oInt, exitF, exit1, u_eCall, okArgs, back, isSl, runF, lim, nth, oLen, oAbs, u_eMu, muEnd, uAppend, uPop1, uInsert, u_eRg1, oRg, u_sFor, u_iRg1, u_iRg2, u_iSeq, ofX, seqOf, u_eCh, u_eSl, u_eMeth, u_eProp, u_eMake, u_eObj, u_gT, u_sAsg, u_sAt, u_tYesV, u_eLc, u_eMt, u_sRaise1, u_iEnumV, u_iZipV, u_eKd, u_eIsE, u_eFE, x0, x1, h5]
      · rw [hp, path_step ac e, List.append_assoc]; rfl)
  have e : par ps j = none := hr.resolve_right (fun z => by omega)
  have h1 : ps.length ≤ 100000 := by omega
  unfold F__law_path W__law_path
  simp [u_sSeq, u_sE, u_sSet, u_sRet, u_sRetN, u_sIf, u_sSub, u_sNx, u_sBk, u_sCt, u_eN, u_eC, u_eBin, u_eUn, u_eFn, u_eNot, u_eAnd, u_eOr, u_eIf, u_eTup, u_eLst, u_aCons, u_aNil, u_tB, u_tE, u_tNot, u_tAnd, u_tOr, keep, take, takes, hv, PV.toIo, PV.reFl, ofO, ofB, ofL, blOf, oIx, oAdd, oSub, oMul, oMod, oDiv, oPow, oI, oB, oGe, oLt, oLe, oGt, oInt, exitF, exit1, u_eCall, okArgs, back, isSl, runF, lim, nth, oLen, oAbs, u_eMu, muEnd, uAppend, uPop1, uInsert, u_eRg1, oRg, u_sFor, u_iRg1, u_iRg2, u_iSeq, ofX, seqOf, u_eCh, u_eSl, u_eMeth, u_eProp, u_eMake, u_eObj, u_gT, u_sAsg, u_sAt, u_tYesV, u_eLc, u_eMt, u_sRaise1, u_iEnumV, u_iZipV, u_eKd, u_eIsE, u_eFE, h1, e3, hp, path_root e]
def anc (ps : List (Option Nat)) : Nat → Option Nat → Option Nat
  | 0, i => i
  | k + 1, i => (anc ps k i).bind (par ps)
theorem anc_lt {ps : List (Option Nat)} (ac : Acy ps) {i : Nat} (hi : i < ps.length) : ∀ (k : Nat) {j : Nat}, anc ps k (some i) = some j → j < ps.length
  | 0, j, h => by cases h; exact hi
  | k + 1, j, h => by
    simp only [anc] at h
    obtain ⟨m, _, e⟩ := Option.bind_eq_some_iff.mp h
    exact ac.lt e
theorem anc_end {ps : List (Option Nat)} (ac : Acy ps) {i : Nat} (hi : i < ps.length) : anc ps ps.length (some i) = none := by
  obtain ⟨r, r1, r2⟩ := ac.rk
  have key : ∀ k j, anc ps k (some i) = some j → r j + k ≤ r i := by
    intro k
    induction k with
    | zero => intro j h; cases h; omega
    | succ k ih =>
      intro j h
      simp only [anc] at h
      obtain ⟨m, h1, e⟩ := Option.bind_eq_some_iff.mp h
      have := ih m h1
      have := r2 e
      omega
  cases e : anc ps ps.length (some i) with
  | none => rfl
  | some j =>
    have := key _ _ e
    have := r1 i hi
    omega
theorem loopJ_ls {w : Nat → PV → PV} {j : Nat} {t : Tg} {f : M Fw} {xs ρ : List PV} {a : PV} (I : Nat → List PV → Prop) (P : List PV → Prop) (h0 : I 0 ρ) (hj : ∀ i ρ, I i ρ → nth ρ j = .lst .io xs)
    (step : ∀ i x ρ, xs[i]? = some x → I i ρ → ∃ ρ1 ρ2, t (w i x) ρ = some ρ1 ∧ ((f ρ1 = .ok .nx ρ2 ∧ I (i + 1) ρ2) ∨ (f ρ1 = .ok (.rt a) ρ2 ∧ P ρ2))) :
    ∃ ρ', (loopJ w j xs.length t f xs.length ρ = .ok .nx ρ' ∧ I xs.length ρ') ∨ (loopJ w j xs.length t f xs.length ρ = .ok (.rt a) ρ' ∧ P ρ') := by
  have go : ∀ (m i : Nat) (ρ : List PV), i + m = xs.length → I i ρ → ∃ ρ', (loopJ w j xs.length t f m ρ = .ok .nx ρ' ∧ I xs.length ρ') ∨ (loopJ w j xs.length t f m ρ = .ok (.rt a) ρ' ∧ P ρ') := by
    intro m
    induction m with
    | zero =>
      intro i ρ hi hI
      obtain rfl : i = xs.length := by omega
      refine ⟨ρ, .inl ⟨?_, hI⟩⟩
      simp only [loopJ, okAt, hj _ _ hI, decide_true, if_true]
    | succ m ih =>
      intro i ρ hi hI
      have hlt : i < xs.length := by omega
      obtain ⟨ρ1, ρ2, e1, q⟩ := step i xs[i] ρ (List.getElem?_eq_getElem hlt) hI
      have hni : xs.length - (m + 1) = i := by omega
      have hn : nowAt j xs.length i ρ = some xs[i] := by simp only [nowAt, hj _ _ hI, if_true]; exact List.getElem?_eq_getElem hlt
      rcases q with ⟨e2, q⟩ | ⟨e2, q⟩
      · obtain ⟨ρ', q'⟩ := ih (i + 1) ρ2 (by omega) q
        refine ⟨ρ', ?_⟩
        simp only [loopJ, hni, hn, e1, e2]
        exact q'
      · refine ⟨ρ2, .inr ⟨?_, q⟩⟩
        simp only [loopJ, hni, hn, e1, e2]
  exact go xs.length 0 ρ (by omega) h0
end Law

set_option linter.all false
set_option maxRecDepth 100000
namespace Law
open VL PySem My
theorem p_way (ps : List (Option Nat)) (i : Nat) (ac : Acy ps) (hi : i < ps.length) : F_way_ends [.lst .io (ps.map pP), .int (i : Int)] = .ok (.bl true) [.lst .ow (ps.map pP), .int (i : Int)] := by
  obtain ⟨ρ', h⟩ := loopJ_ls (w := wId) (j := 0) (t := gN 2) (f := B_way_ends_1) (xs := ps.map pP) (ρ := [.lst .io (ps.map pP), .int i, .emp]) (a := .bl true)
    (fun k ρ => ∃ s2 : PV, s2.isIo = false ∧ ρ = [.lst .io (ps.map pP), pP (anc ps k (some i)), s2]) (fun ρ => ∃ s1 s2, ρ = [.lst .io (ps.map pP), s1, s2])
    ⟨_, rfl, rfl⟩ (by rintro k ρ ⟨s2, _, rfl⟩; rfl) (by
    rintro k x ρ hx ⟨s2, i2, rfl⟩
    rw [List.getElem?_map] at hx
    obtain ⟨q, hq, rfl⟩ := Option.map_eq_some_iff.mp hx
    unfold B_way_ends_1
    cases e : anc ps k (some i) with
    | none =>
      refine ⟨_, [.lst .io (ps.map pP), .non, pP q], gN_ok i2 (pP_io q), .inr ⟨?_, .non, pP q, rfl⟩⟩
      simp [u_sSeq, u_sE, u_sSet, u_sRet, u_sRetN, u_sIf, u_sSub, u_sNx, u_sBk, u_sCt, u_eN, u_eC, u_eBin, u_eUn, u_eFn, u_eNot, u_eAnd, u_eOr, u_eIf, u_eTup, u_eLst, u_aCons, u_aNil, u_tB, u_tE, u_tNot, u_tAnd, u_tOr, keep, take, takes, hv, PV.toIo, PV.reFl, ofO, ofB, ofL, blOf, oIx, oAdd, oSub, oMul, oMod, oDiv, oPow, oI, oB, oGe, oLt, oLe, oGt, oInt, exitF, exit1, u_eCall, okArgs, back, isSl, runF, lim, nth, oLen, oAbs, u_eMu, muEnd, uAppend, uPop1, uInsert, u_eRg1, oRg, u_sFor, u_iRg1, u_iRg2, u_iSeq, ofX, seqOf, u_eCh, u_eSl, u_eMeth, u_eProp, u_eMake, u_eObj, u_gT, u_sAsg, u_sAt, u_tYesV, u_eLc, u_eMt, u_sRaise1, u_iEnumV, u_iZipV, u_eKd, u_eIsE, u_eFE, wId]
    | some j =>
      have hj := anc_lt ac hi k e
      have x1 := par_atP hj
      refine ⟨_, [.lst .io (ps.map pP), pP (anc ps (k + 1) (some i)), pP q], gN_ok i2 (pP_io q), .inl ⟨?_, _, pP_io q, rfl⟩⟩
      have e2 : anc ps (k + 1) (some i) = par ps j := by simp only [anc, e]; rfl
      rw [e2]
      simp [u_sSeq, u_sE, u_sSet, u_sRet, u_sRetN, u_sIf, u_sSub, u_sNx, u_sBk, u_sCt, u_eN, u_eC, u_eBin, u_eUn, u_eFn, u_eNot, u_eAnd, u_eOr, u_eIf, u_eTup, u_eLst, u_aCons, u_aNil, u_tB, u_tE, u_tNot, u_tAnd, u_tOr, keep, take, takes, hv, PV.toIo, PV.reFl, ofO, ofB, ofL, blOf, oIx, oAdd, oSub, oMul, oMod, oDiv, oPow, oI, oB, oGe, oLt, oLe, oGt, oInt, exitF, exit1, u_eCall, okArgs, back, isSl, runF, lim, nth, oLen, oAbs, u_eMu, muEnd, uAppend, uPop1, uInsert, u_eRg1, oRg, u_sFor, u_iRg1, u_iRg2, u_iSeq, ofX, seqOf, u_eCh, u_eSl, u_eMeth, u_eProp, u_eMake, u_eObj, u_gT, u_sAsg, u_sAt, u_tYesV, u_eLc, u_eMt, u_sRaise1, u_iEnumV, u_iZipV, u_eKd, u_eIsE, u_eFE, wId, x1])
  unfold F_way_ends W_way_ends
  have hl : (ps.map pP).length = ps.length := by simp
  rw [hl] at h
  rcases h with ⟨h, s2, i2, rfl⟩ | ⟨h, s1, s2, rfl⟩
  · rw [anc_end ac hi] at h
    simp [u_sSeq, u_sE, u_sSet, u_sRet, u_sRetN, u_sIf, u_sSub, u_sNx, u_sBk, u_sCt, u_eN, u_eC, u_eBin, u_eUn, u_eFn, u_eNot, u_eAnd, u_eOr, u_eIf, u_eTup, u_eLst, u_aCons, u_aNil, u_tB, u_tE, u_tNot, u_tAnd, u_tOr, keep, take, takes, hv, PV.toIo, PV.reFl, ofO, ofB, ofL, blOf, oIx, oAdd, oSub, oMul, oMod, oDiv, oPow, oI, oB, oGe, oLt, oLe, oGt, oInt, exitF, exit1, u_eCall, okArgs, back, isSl, runF, lim, nth, oLen, oAbs, u_eMu, muEnd, uAppend, uPop1, uInsert, u_eRg1, oRg, u_sFor, u_iRg1, u_iRg2, u_iSeq, ofX, seqOf, u_eCh, u_eSl, u_eMeth, u_eProp, u_eMake, u_eObj, u_gT, u_sAsg, u_sAt, u_tYesV, u_eLc, u_eMt, u_sRaise1, u_iEnumV, u_iZipV, u_eKd, u_eIsE, u_eFE, sForN, h]
  · simp [u_sSeq, u_sE, u_sSet, u_sRet, u_sRetN, u_sIf, u_sSub, u_sNx, u_sBk, u_sCt, u_eN, u_eC, u_eBin, u_eUn, u_eFn, u_eNot, u_eAnd, u_eOr, u_eIf, u_eTup, u_eLst, u_aCons, u_aNil, u_tB, u_tE, u_tNot, u_tAnd, u_tOr, keep, take, takes, hv, PV.toIo, PV.reFl, ofO, ofB, ofL, blOf, oIx, oAdd, oSub, oMul, oMod, oDiv, oPow, oI, oB, oGe, oLt, oLe, oGt, oInt, exitF, exit1, u_eCall, okArgs, back, isSl, runF, lim, nth, oLen, oAbs, u_eMu, muEnd, uAppend, uPop1, uInsert, u_eRg1, oRg, u_sFor, u_iRg1, u_iRg2, u_iSeq, ofX, seqOf, u_eCh, u_eSl, u_eMeth, u_eProp, u_eMake, u_eObj, u_gT, u_sAsg, u_sAt, u_tYesV, u_eLc, u_eMt, u_sRaise1, u_iEnumV, u_iZipV, u_eKd, u_eIsE, u_eFE, sForN, h]
theorem p_ranked (k : Str) (h : word4 k) : F_is_ranked [.str k] = .ok (.bl (decide (k = "up" ∨ k = "down"))) [.str k] := by
  unfold F_is_ranked W_is_ranked
  rcases h with rfl | rfl | rfl | rfl <;> simp [u_sSeq, u_sE, u_sSet, u_sRet, u_sRetN, u_sIf, u_sSub, u_sNx, u_sBk, u_sCt, u_eN, u_eC, u_eBin, u_eUn, u_eFn, u_eNot, u_eAnd, u_eOr, u_eIf, u_eTup, u_eLst, u_aCons, u_aNil, u_tB, u_tE, u_tNot, u_tAnd, u_tOr, keep, take, takes, hv, PV.toIo, PV.reFl, ofO, ofB, ofL, blOf, oIx, oAdd, oSub, oMul, oMod, oDiv, oPow, oI, oB, oGe, oLt, oLe, oGt, oInt, exitF, exit1, u_eCall, okArgs, back, isSl, runF, lim, nth, oLen, oAbs, u_eMu, muEnd, uAppend, uPop1, uInsert, u_eRg1, oRg, u_sFor, u_iRg1, u_iRg2, u_iSeq, ofX, seqOf, u_eCh, u_eSl, u_eMeth, u_eProp, u_eMake, u_eObj, u_gT, u_sAsg, u_sAt, u_tYesV, u_eLc, u_eMt, u_sRaise1, u_iEnumV, u_iZipV, u_eKd, u_eIsE, u_eFE, oEq_str, tru]
structure FOk (ps : List (Option Nat)) (ks : List Str) : Prop where
  pos : 1 ≤ ps.length
  most : ps.length ≤ 16
  acy : Acy ps
  k : KOk ps ks
theorem p_check (ps : List (Option Nat)) (ks : List Str) (ok : FOk ps ks) : F_check_forest [.lst .io (ps.map pP), .lst .io (ks.map .str)] = .ok .non [.lst .ow (ps.map pP), .lst .ow (ks.map .str)] := by
  have hl := ok.k.len
  have pos := ok.pos
  have most := ok.most
  obtain ⟨ρ1, ⟨h1, s3, s4, s5, i3, i4, i5, rfl⟩ | ⟨_, ⟨⟩⟩⟩ := loopJ_ls (w := wPair) (j := 0) (t := gT [(gN 3), (gN 4)]) (f := B_check_forest_1) (xs := ps.map pP) (ρ := [.lst .io (ps.map pP), .lst .io (ks.map .str), .int ps.length, .emp, .emp, .emp]) (a := .non)
    (fun k ρ => ∃ s3 s4 s5 : PV, s3.isIo = false ∧ s4.isIo = false ∧ s5.isIo = false ∧ ρ = [.lst .io (ps.map pP), .lst .io (ks.map .str), .int ps.length, s3, s4, s5]) (fun _ => False)
    ⟨_, _, _, rfl, rfl, rfl, rfl⟩ (by rintro k ρ ⟨_, _, _, _, _, _, rfl⟩; rfl) (by
    rintro k x ρ hx ⟨s3, s4, s5, i3, i4, i5, rfl⟩
    rw [List.getElem?_map] at hx
    obtain ⟨q, hq, rfl⟩ := Option.map_eq_some_iff.mp hx
    refine ⟨[.lst .io (ps.map pP), .lst .io (ks.map .str), .int ps.length, .int k, pP q, s5], [.lst .io (ps.map pP), .lst .io (ks.map .str), .int ps.length, .int k, pP q, s5], ?_, .inl ⟨?_, _, _, _, rfl, pP_io q, i5, rfl⟩⟩
    · simp [u_sSeq, u_sE, u_sSet, u_sRet, u_sRetN, u_sIf, u_sSub, u_sNx, u_sBk, u_sCt, u_eN, u_eC, u_eBin, u_eUn, u_eFn, u_eNot, u_eAnd, u_eOr, u_eIf, u_eTup, u_eLst, u_aCons, u_aNil, u_tB, u_tE, u_tNot, u_tAnd, u_tOr, keep, take, takes, hv, PV.toIo, PV.reFl, ofO, ofB, ofL, blOf, oIx, oAdd, oSub, oMul, oMod, oDiv, oPow, oI, oB, oGe, oLt, oLe, oGt, oInt, exitF, exit1, u_eCall, okArgs, back, isSl, runF, lim, nth, oLen, oAbs, u_eMu, muEnd, uAppend, uPop1, uInsert, u_eRg1, oRg, u_sFor, u_iRg1, u_iRg2, u_iSeq, ofX, seqOf, u_eCh, u_eSl, u_eMeth, u_eProp, u_eMake, u_eObj, u_gT, u_sAsg, u_sAt, u_tYesV, u_eLc, u_eMt, u_sRaise1, u_iEnumV, u_iZipV, u_eKd, u_eIsE, u_eFE, wPair, gL, i3, i4]
    · unfold B_check_forest_1
      cases q with
      | none => simp [u_sSeq, u_sE, u_sSet, u_sRet, u_sRetN, u_sIf, u_sSub, u_sNx, u_sBk, u_sCt, u_eN, u_eC, u_eBin, u_eUn, u_eFn, u_eNot, u_eAnd, u_eOr, u_eIf, u_eTup, u_eLst, u_aCons, u_aNil, u_tB, u_tE, u_tNot, u_tAnd, u_tOr, keep, take, takes, hv, PV.toIo, PV.reFl, ofO, ofB, ofL, blOf, oIx, oAdd, oSub, oMul, oMod, oDiv, oPow, oI, oB, oGe, oLt, oLe, oGt, oInt, exitF, exit1, u_eCall, okArgs, back, isSl, runF, lim, nth, oLen, oAbs, u_eMu, muEnd, uAppend, uPop1, uInsert, u_eRg1, oRg, u_sFor, u_iRg1, u_iRg2, u_iSeq, ofX, seqOf, u_eCh, u_eSl, u_eMeth, u_eProp, u_eMake, u_eObj, u_gT, u_sAsg, u_sAt, u_tYesV, u_eLc, u_eMt, u_sRaise1, u_iEnumV, u_iZipV, u_eKd, u_eIsE, u_eFE]
      | some p =>
        have hk : par ps k = some p := by unfold par; rw [hq]; rfl
        have hp := ok.acy.lt hk
        have hp' : ¬ ps.length ≤ p := by omega
        have hp0 : ¬ (p : Int) < 0 := by omega
        simp [u_sSeq, u_sE, u_sSet, u_sRet, u_sRetN, u_sIf, u_sSub, u_sNx, u_sBk, u_sCt, u_eN, u_eC, u_eBin, u_eUn, u_eFn, u_eNot, u_eAnd, u_eOr, u_eIf, u_eTup, u_eLst, u_aCons, u_aNil, u_tB, u_tE, u_tNot, u_tAnd, u_tOr, keep, take, takes, hv, PV.toIo, PV.reFl, ofO, ofB, ofL, blOf, oIx, oAdd, oSub, oMul, oMod, oDiv, oPow, oI, oB, oGe, oLt, oLe, oGt, oInt, exitF, exit1, u_eCall, okArgs, back, isSl, runF, lim, nth, oLen, oAbs, u_eMu, muEnd, uAppend, uPop1, uInsert, u_eRg1, oRg, u_sFor, u_iRg1, u_iRg2, u_iSeq, ofX, seqOf, u_eCh, u_eSl, u_eMeth, u_eProp, u_eMake, u_eObj, u_gT, u_sAsg, u_sAt, u_tYesV, u_eLc, u_eMt, u_sRaise1, u_iEnumV, u_iZipV, u_eKd, u_eIsE, u_eFE, hp', hp0])
  obtain ⟨ρ2, h2, s3', s4', s5', i3', i4', i5', rfl⟩ := loop_rg (t := gN 3) (f := B_check_forest_2) (a := 0) (b := ps.length) (ρ := [.lst .io (ps.map pP), .lst .io (ks.map .str), .int ps.length, s3, s4, s5])
    (fun k ρ => ∃ s3 s4 s5 : PV, s3.isIo = false ∧ s4.isIo = false ∧ s5.isIo = false ∧ ρ = [.lst .io (ps.map pP), .lst .io (ks.map .str), .int ps.length, s3, s4, s5]) (by omega) ⟨_, _, _, i3, i4, i5, rfl⟩ (by
    rintro k ρ k0 k1 ⟨s3, s4, s5, i3, i4, i5, rfl⟩
    obtain ⟨m, rfl⟩ : ∃ m : Nat, k = m := ⟨k.toNat, by omega⟩
    have e := p_way ps m ok.acy (by omega)
    refine ⟨_, [.lst .io (ps.map pP), .lst .io (ks.map .str), .int ps.length, .int m, s4, s5], gN_ok i3, ?_, _, _, _, rfl, i4, i5, rfl⟩
    unfold B_check_forest_2
    simp [u_sSeq, u_sE, u_sSet, u_sRet, u_sRetN, u_sIf, u_sSub, u_sNx, u_sBk, u_sCt, u_eN, u_eC, u_eBin, u_eUn, u_eFn, u_eNot, u_eAnd, u_eOr, u_eIf, u_eTup, u_eLst, u_aCons, u_aNil, u_tB, u_tE, u_tNot, u_tAnd, u_tOr, keep, take, takes, hv, PV.toIo, PV.reFl, ofO, ofB, ofL, blOf, oIx, oAdd, oSub, oMul, oMod, oDiv, oPow, oI, oB, oGe, oLt, oLe, oGt, oInt, exitF, exit1, u_eCall, okArgs, back, isSl, runF, lim, nth, oLen, oAbs, u_eMu, muEnd, uAppend, uPop1, uInsert, u_eRg1, oRg, u_sFor, u_iRg1, u_iRg2, u_iSeq, ofX, seqOf, u_eCh, u_eSl, u_eMeth, u_eProp, u_eMake, u_eObj, u_gT, u_sAsg, u_sAt, u_tYesV, u_eLc, u_eMt, u_sRaise1, u_iEnumV, u_iZipV, u_eKd, u_eIsE, u_eFE, e, tru])
  obtain ⟨ρ3, ⟨h3, s3'', s4'', s5'', i3'', i4'', i5'', rfl⟩ | ⟨_, ⟨⟩⟩⟩ := loopJ_ls (w := wPair) (j := 1) (t := gT [(gN 3), (gN 5)]) (f := B_check_forest_3) (xs := ks.map .str) (ρ := [.lst .io (ps.map pP), .lst .io (ks.map .str), .int ps.length, s3', s4', s5']) (a := .non)
    (fun k ρ => ∃ s3 s4 s5 : PV, s3.isIo = false ∧ s4.isIo = false ∧ s5.isIo = false ∧ ρ = [.lst .io (ps.map pP), .lst .io (ks.map .str), .int ps.length, s3, s4, s5]) (fun _ => False)
    ⟨_, _, _, i3', i4', i5', rfl⟩ (by rintro k ρ ⟨_, _, _, _, _, _, rfl⟩; rfl) (by
    rintro k x ρ hx ⟨s3, s4, s5, i3, i4, i5, rfl⟩
    rw [List.getElem?_map] at hx
    obtain ⟨q, hq, rfl⟩ := Option.map_eq_some_iff.mp hx
    have w4 := ok.k.w q (List.mem_of_getElem? hq)
    have e := p_ranked q w4
    refine ⟨[.lst .io (ps.map pP), .lst .io (ks.map .str), .int ps.length, .int k, s4, .str q], [.lst .io (ps.map pP), .lst .io (ks.map .str), .int ps.length, .int k, s4, .str q], ?_, .inl ⟨?_, _, _, _, rfl, i4, rfl, rfl⟩⟩
    · simp [u_sSeq, u_sE, u_sSet, u_sRet, u_sRetN, u_sIf, u_sSub, u_sNx, u_sBk, u_sCt, u_eN, u_eC, u_eBin, u_eUn, u_eFn, u_eNot, u_eAnd, u_eOr, u_eIf, u_eTup, u_eLst, u_aCons, u_aNil, u_tB, u_tE, u_tNot, u_tAnd, u_tOr, keep, take, takes, hv, PV.toIo, PV.reFl, ofO, ofB, ofL, blOf, oIx, oAdd, oSub, oMul, oMod, oDiv, oPow, oI, oB, oGe, oLt, oLe, oGt, oInt, exitF, exit1, u_eCall, okArgs, back, isSl, runF, lim, nth, oLen, oAbs, u_eMu, muEnd, uAppend, uPop1, uInsert, u_eRg1, oRg, u_sFor, u_iRg1, u_iRg2, u_iSeq, ofX, seqOf, u_eCh, u_eSl, u_eMeth, u_eProp, u_eMake, u_eObj, u_gT, u_sAsg, u_sAt, u_tYesV, u_eLc, u_eMt, u_sRaise1, u_iEnumV, u_iZipV, u_eKd, u_eIsE, u_eFE, wPair, gL, i3, i5]
    · unfold B_check_forest_3
      by_cases hr : ranked q
      · have : (q = "up" ∨ q = "down") := hr
        have e' : F_is_ranked [.str q] = .ok (.bl true) [.str q] := by rw [e, decide_eq_true this]
        simp [u_sSeq, u_sE, u_sSet, u_sRet, u_sRetN, u_sIf, u_sSub, u_sNx, u_sBk, u_sCt, u_eN, u_eC, u_eBin, u_eUn, u_eFn, u_eNot, u_eAnd, u_eOr, u_eIf, u_eTup, u_eLst, u_aCons, u_aNil, u_tB, u_tE, u_tNot, u_tAnd, u_tOr, keep, take, takes, hv, PV.toIo, PV.reFl, ofO, ofB, ofL, blOf, oIx, oAdd, oSub, oMul, oMod, oDiv, oPow, oI, oB, oGe, oLt, oLe, oGt, oInt, exitF, exit1, u_eCall, okArgs, back, isSl, runF, lim, nth, oLen, oAbs, u_eMu, muEnd, uAppend, uPop1, uInsert, u_eRg1, oRg, u_sFor, u_iRg1, u_iRg2, u_iSeq, ofX, seqOf, u_eCh, u_eSl, u_eMeth, u_eProp, u_eMake, u_eObj, u_gT, u_sAsg, u_sAt, u_tYesV, u_eLc, u_eMt, u_sRaise1, u_iEnumV, u_iZipV, u_eKd, u_eIsE, u_eFE, e', tru]
      · have : ¬ (q = "up" ∨ q = "down") := hr
        have e' : F_is_ranked [.str q] = .ok (.bl false) [.str q] := by rw [e, decide_eq_false this]
        have hin : some k ∉ ps := fun hm => hr (ok.k.r k q hq hm)
        simp [u_sSeq, u_sE, u_sSet, u_sRet, u_sRetN, u_sIf, u_sSub, u_sNx, u_sBk, u_sCt, u_eN, u_eC, u_eBin, u_eUn, u_eFn, u_eNot, u_eAnd, u_eOr, u_eIf, u_eTup, u_eLst, u_aCons, u_aNil, u_tB, u_tE, u_tNot, u_tAnd, u_tOr, keep, take, takes, hv, PV.toIo, PV.reFl, ofO, ofB, ofL, blOf, oIx, oAdd, oSub, oMul, oMod, oDiv, oPow, oI, oB, oGe, oLt, oLe, oGt, oInt, exitF, exit1, u_eCall, okArgs, back, isSl, runF, lim, nth, oLen, oAbs, u_eMu, muEnd, uAppend, uPop1, uInsert, u_eRg1, oRg, u_sFor, u_iRg1, u_iRg2, u_iSeq, ofX, seqOf, u_eCh, u_eSl, u_eMeth, u_eProp, u_eMake, u_eObj, u_gT, u_sAsg, u_sAt, u_tYesV, u_eLc, u_eMt, u_sRaise1, u_iEnumV, u_iZipV, u_eKd, u_eIsE, u_eFE, e', tru, oIn_par, hin])
  unfold F_check_forest W_check_forest
  have q1 : ¬ (ps.length : Int) < 1 := by omega
  have q2 : ¬ (16 : Int) < ps.length := by omega
  have q3 : ps.length ≤ 100000 := by omega
  have q4 : ps.length ≠ 0 := by omega
  rw [List.length_map] at h1
  rw [List.length_map, hl] at h3
  simp [u_sSeq, u_sE, u_sSet, u_sRet, u_sRetN, u_sIf, u_sSub, u_sNx, u_sBk, u_sCt, u_eN, u_eC, u_eBin, u_eUn, u_eFn, u_eNot, u_eAnd, u_eOr, u_eIf, u_eTup, u_eLst, u_aCons, u_aNil, u_tB, u_tE, u_tNot, u_tAnd, u_tOr, keep, take, takes, hv, PV.toIo, PV.reFl, ofO, ofB, ofL, blOf, oIx, oAdd, oSub, oMul, oMod, oDiv, oPow, oI, oB, oGe, oLt, oLe, oGt, oInt, exitF, exit1, u_eCall, okArgs, back, isSl, runF, lim, nth, oLen, oAbs, u_eMu, muEnd, uAppend, uPop1, uInsert, u_eRg1, oRg, u_sFor, u_iRg1, u_iRg2, u_iSeq, ofX, seqOf, u_eCh, u_eSl, u_eMeth, u_eProp, u_eMake, u_eObj, u_gT, u_sAsg, u_sAt, u_tYesV, u_eLc, u_eMt, u_sRaise1, u_iEnumV, u_iZipV, u_eKd, u_eIsE, u_eFE, hl, q1, q2, q3, q4, sForE, h1, h2, h3]
end Law

set_option linter.all false
set_option maxRecDepth 100000
namespace Law
open VL PySem My
abbrev foV (ps : List (Option Nat)) (ks : List Str) : PV := .obj .fz "Forest" [.int ps.length, .tup (ps.map pP), .tup (ks.map .str)]
theorem p_init (ps : List (Option Nat)) (ks : List Str) (ok : FOk ps ks) : F_Forest____init__ [.obj .io "Forest" [], .lst .ow (ps.map pP), .lst .ow (ks.map .str)] = .ok .non [.obj .ow "Forest" [.int ps.length, .tup (ps.map pP), .tup (ks.map .str)], .lst .ow (ps.map pP), .lst .ow (ks.map .str)] := by
  have e := p_check ps ks ok
  unfold F_Forest____init__ W_Forest____init__
  simp [u_sSeq, u_sE, u_sSet, u_sRet, u_sRetN, u_sIf, u_sSub, u_sNx, u_sBk, u_sCt, u_eN, u_eC, u_eBin, u_eUn, u_eFn, u_eNot, u_eAnd, u_eOr, u_eIf, u_eTup, u_eLst, u_aCons, u_aNil, u_tB, u_tE, u_tNot, u_tAnd, u_tOr, keep, take, takes, hv, PV.toIo, PV.reFl, ofO, ofB, ofL, blOf, oIx, oAdd, oSub, oMul, oMod, oDiv, oPow, oI, oB, oGe, oLt, oLe, oGt, oInt, exitF, exit1, u_eCall, okArgs, back, isSl, runF, lim, nth, oLen, oAbs, u_eMu, muEnd, uAppend, uPop1, uInsert, u_eRg1, oRg, u_sFor, u_iRg1, u_iRg2, u_iSeq, ofX, seqOf, u_eCh, u_eSl, u_eMeth, u_eProp, u_eMake, u_eObj, u_gT, u_sAsg, u_sAt, u_tYesV, u_eLc, u_eMt, u_sRaise1, u_iEnumV, u_iZipV, u_eKd, u_eIsE, u_eFE, e, putA, oTuple]
def sg (a b : Int) : Int := if a < b then -1 else if b < a then 1 else 0
theorem p_sign (a b : Int) : F_sign [.int a, .int b] = .ok (.int (sg a b)) [.int a, .int b] := by
  unfold F_sign W_sign sg
  by_cases h : a < b
  · simp [u_sSeq, u_sE, u_sSet, u_sRet, u_sRetN, u_sIf, u_sSub, u_sNx, u_sBk, u_sCt, u_eN, u_eC, u_eBin, u_eUn, u_eFn, u_eNot, u_eAnd, u_eOr, u_eIf, u_eTup, u_eLst, u_aCons, u_aNil, u_tB, u_tE, u_tNot, u_tAnd, u_tOr, keep, take, takes, hv, PV.toIo, PV.reFl, ofO, ofB, ofL, blOf, oIx, oAdd, oSub, oMul, oMod, oDiv, oPow, oI, oB, oGe, oLt, oLe, oGt, oInt, exitF, exit1, u_eCall, okArgs, back, isSl, runF, lim, nth, oLen, oAbs, u_eMu, muEnd, uAppend, uPop1, uInsert, u_eRg1, oRg, u_sFor, u_iRg1, u_iRg2, u_iSeq, ofX, seqOf, u_eCh, u_eSl, u_eMeth, u_eProp, u_eMake, u_eObj, u_gT, u_sAsg, u_sAt, u_tYesV, u_eLc, u_eMt, u_sRaise1, u_iEnumV, u_iZipV, u_eKd, u_eIsE, u_eFE, h, oNeg]
  · by_cases h2 : b < a
    · simp [u_sSeq, u_sE, u_sSet, u_sRet, u_sRetN, u_sIf, u_sSub, u_sNx, u_sBk, u_sCt, u_eN, u_eC, u_eBin, u_eUn, u_eFn, u_eNot, u_eAnd, u_eOr, u_eIf, u_eTup, u_eLst, u_aCons, u_aNil, u_tB, u_tE, u_tNot, u_tAnd, u_tOr, keep, take, takes, hv, PV.toIo, PV.reFl, ofO, ofB, ofL, blOf, oIx, oAdd, oSub, oMul, oMod, oDiv, oPow, oI, oB, oGe, oLt, oLe, oGt, oInt, exitF, exit1, u_eCall, okArgs, back, isSl, runF, lim, nth, oLen, oAbs, u_eMu, muEnd, uAppend, uPop1, uInsert, u_eRg1, oRg, u_sFor, u_iRg1, u_iRg2, u_iSeq, ofX, seqOf, u_eCh, u_eSl, u_eMeth, u_eProp, u_eMake, u_eObj, u_gT, u_sAsg, u_sAt, u_tYesV, u_eLc, u_eMt, u_sRaise1, u_iEnumV, u_iZipV, u_eKd, u_eIsE, u_eFE, h, h2]
    · simp [u_sSeq, u_sE, u_sSet, u_sRet, u_sRetN, u_sIf, u_sSub, u_sNx, u_sBk, u_sCt, u_eN, u_eC, u_eBin, u_eUn, u_eFn, u_eNot, u_eAnd, u_eOr, u_eIf, u_eTup, u_eLst, u_aCons, u_aNil, u_tB, u_tE, u_tNot, u_tAnd, u_tOr, keep, take, takes, hv, PV.toIo, PV.reFl, ofO, ofB, ofL, blOf, oIx, oAdd, oSub, oMul, oMod, oDiv, oPow, oI, oB, oGe, oLt, oLe, oGt, oInt, exitF, exit1, u_eCall, okArgs, back, isSl, runF, lim, nth, oLen, oAbs, u_eMu, muEnd, uAppend, uPop1, uInsert, u_eRg1, oRg, u_sFor, u_iRg1, u_iRg2, u_iSeq, ofX, seqOf, u_eCh, u_eSl, u_eMeth, u_eProp, u_eMake, u_eObj, u_gT, u_sAsg, u_sAt, u_tYesV, u_eLc, u_eMt, u_sRaise1, u_iEnumV, u_iZipV, u_eKd, u_eIsE, u_eFE, h, h2]
abbrev recV (xs : List Int) : PV := .tup (xs.map .int)
theorem p_crec (n : Nat) (xs : List Int) (h : xs.length = n) : F_check_record [.int n, recV xs] = .ok .non [.int n, recV xs] := by
  unfold F_check_record W_check_record
  simp [u_sSeq, u_sE, u_sSet, u_sRet, u_sRetN, u_sIf, u_sSub, u_sNx, u_sBk, u_sCt, u_eN, u_eC, u_eBin, u_eUn, u_eFn, u_eNot, u_eAnd, u_eOr, u_eIf, u_eTup, u_eLst, u_aCons, u_aNil, u_tB, u_tE, u_tNot, u_tAnd, u_tOr, keep, take, takes, hv, PV.toIo, PV.reFl, ofO, ofB, ofL, blOf, oIx, oAdd, oSub, oMul, oMod, oDiv, oPow, oI, oB, oGe, oLt, oLe, oGt, oInt, exitF, exit1, u_eCall, okArgs, back, isSl, runF, lim, nth, oLen, oAbs, u_eMu, muEnd, uAppend, uPop1, uInsert, u_eRg1, oRg, u_sFor, u_iRg1, u_iRg2, u_iSeq, ofX, seqOf, u_eCh, u_eSl, u_eMeth, u_eProp, u_eMake, u_eObj, u_gT, u_sAsg, u_sAt, u_tYesV, u_eLc, u_eMt, u_sRaise1, u_iEnumV, u_iZipV, u_eKd, u_eIsE, u_eFE, h]
theorem p_crec_bad (n : Nat) (xs : List Int) (h : xs.length ≠ n) : F_check_record [.int n, recV xs] = .exc "BadRecord" [recV xs] [.int n, recV xs] := by
  unfold F_check_record W_check_record
  have h2 : ¬ (xs.length : Int) = n := by omega
  simp [u_sSeq, u_sE, u_sSet, u_sRet, u_sRetN, u_sIf, u_sSub, u_sNx, u_sBk, u_sCt, u_eN, u_eC, u_eBin, u_eUn, u_eFn, u_eNot, u_eAnd, u_eOr, u_eIf, u_eTup, u_eLst, u_aCons, u_aNil, u_tB, u_tE, u_tNot, u_tAnd, u_tOr, keep, take, takes, hv, PV.toIo, PV.reFl, ofO, ofB, ofL, blOf, oIx, oAdd, oSub, oMul, oMod, oDiv, oPow, oI, oB, oGe, oLt, oLe, oGt, oInt, exitF, exit1, u_eCall, okArgs, back, isSl, runF, lim, nth, oLen, oAbs, u_eMu, muEnd, uAppend, uPop1, uInsert, u_eRg1, oRg, u_sFor, u_iRg1, u_iRg2, u_iSeq, ofX, seqOf, u_eCh, u_eSl, u_eMeth, u_eProp, u_eMake, u_eObj, u_gT, u_sAsg, u_sAt, u_tYesV, u_eLc, u_eMt, u_sRaise1, u_iEnumV, u_iZipV, u_eKd, u_eIsE, u_eFE, h, h2]
def sgL (xs ys : List Int) : List Int := List.zipWith sg xs ys
theorem zp_get {xs ys : List Int} {i : Nat} {b : PV} (h : (zpairs (xs.map .int) (ys.map .int))[i]? = some b) : ∃ x y, xs[i]? = some x ∧ ys[i]? = some y ∧ b = .tup [.int x, .int y] := by
  obtain ⟨x, y, h1, h2, rfl⟩ := zpairs_at h
  rw [List.getElem?_map] at h1 h2
  obtain ⟨x, hx, rfl⟩ := Option.map_eq_some_iff.mp h1
  obtain ⟨y, hy, rfl⟩ := Option.map_eq_some_iff.mp h2
  exact ⟨x, y, hx, hy, rfl⟩
theorem zp_len : ∀ (xs ys : List Int), xs.length = ys.length → (zpairs (xs.map PV.int) (ys.map PV.int)).length = xs.length
  | [], [], _ => rfl
  | x :: xs, y :: ys, h => by simp [zpairs, zp_len xs ys (by simpa using h)]
  | [], _ :: _, h => by simp at h
  | _ :: _, [], h => by simp at h
theorem p_signs (xs ys : List Int) (h : xs.length = ys.length) (hn : xs.length ≤ 1000) : F_signs [recV xs, recV ys] = .ok (recV (sgL xs ys)) [recV xs, recV ys] := by
  obtain ⟨zs, ρ', e, e1, rfl⟩ := lcl_ls (t := gT [(gN 2), (gN 3)]) (tt := tYesV) (fe := B_signs_1) (own := [2, 3]) (xs := zpairs (xs.map .int) (ys.map .int)) (acc := []) (ρ := [recV xs, recV ys, .emp, .emp])
    (fun i acc ρ => acc = ((sgL xs ys).take i).map .int ∧ ρ = [recV xs, recV ys, .emp, .emp]) ⟨by simp, rfl⟩ (by
    rintro i b acc ρ hb ⟨rfl, rfl⟩
    obtain ⟨x, y, hx, hy, rfl⟩ := zp_get hb
    have e := p_sign x y
    have hi := (List.getElem?_eq_some_iff.mp hx).1
    refine ⟨[recV xs, recV ys, .int x, .int y], [recV xs, recV ys, .int x, .int y], [recV xs, recV ys, .int x, .int y], [recV xs, recV ys, .int x, .int y], .tm (.int (sg x y)), .int (sg x y), ?_, rfl, ?_, rfl, ?_, ?_, rfl⟩
    · simp [u_sSeq, u_sE, u_sSet, u_sRet, u_sRetN, u_sIf, u_sSub, u_sNx, u_sBk, u_sCt, u_eN, u_eC, u_eBin, u_eUn, u_eFn, u_eNot, u_eAnd, u_eOr, u_eIf, u_eTup, u_eLst, u_aCons, u_aNil, u_tB, u_tE, u_tNot, u_tAnd, u_tOr, keep, take, takes, hv, PV.toIo, PV.reFl, ofO, ofB, ofL, blOf, oIx, oAdd, oSub, oMul, oMod, oDiv, oPow, oI, oB, oGe, oLt, oLe, oGt, oInt, exitF, exit1, u_eCall, okArgs, back, isSl, runF, lim, nth, oLen, oAbs, u_eMu, muEnd, uAppend, uPop1, uInsert, u_eRg1, oRg, u_sFor, u_iRg1, u_iRg2, u_iSeq, ofX, seqOf, u_eCh, u_eSl, u_eMeth, u_eProp, u_eMake, u_eObj, u_gT, u_sAsg, u_sAt, u_tYesV, u_eLc, u_eMt, u_sRaise1, u_iEnumV, u_iZipV, u_eKd, u_eIsE, u_eFE, gL]
    · unfold B_signs_1
      simp [u_sSeq, u_sE, u_sSet, u_sRet, u_sRetN, u_sIf, u_sSub, u_sNx, u_sBk, u_sCt, u_eN, u_eC, u_eBin, u_eUn, u_eFn, u_eNot, u_eAnd, u_eOr, u_eIf, u_eTup, u_eLst, u_aCons, u_aNil, u_tB, u_tE, u_tNot, u_tAnd, u_tOr, keep, take, takes, hv, PV.toIo, PV.reFl, ofO, ofB, ofL, blOf, oIx, oAdd, oSub, oMul, oMod, oDiv, oPow, oI, oB, oGe, oLt, oLe, oGt, oInt, exitF, exit1, u_eCall, okArgs, back, isSl, runF, lim, nth, oLen, oAbs, u_eMu, muEnd, uAppend, uPop1, uInsert, u_eRg1, oRg, u_sFor, u_iRg1, u_iRg2, u_iSeq, ofX, seqOf, u_eCh, u_eSl, u_eMeth, u_eProp, u_eMake, u_eObj, u_gT, u_sAsg, u_sAt, u_tYesV, u_eLc, u_eMt, u_sRaise1, u_iEnumV, u_iZipV, u_eKd, u_eIsE, u_eFE, e]
    · simp [lim]; omega
    · have : (sgL xs ys)[i]? = some (sg x y) := by simp [sgL, List.getElem?_zipWith, hx, hy]
      rw [List.take_add_one, this]
      simp)
  have lz := zp_len xs ys h
  have e2 : zs = (sgL xs ys).map .int := by
    rw [e1, lz, List.take_of_length_le]
    simp [sgL]; omega
  have h1 : (xs.length : Int) = ys.length := by omega
  unfold F_signs W_signs
  simp [u_sSeq, u_sE, u_sSet, u_sRet, u_sRetN, u_sIf, u_sSub, u_sNx, u_sBk, u_sCt, u_eN, u_eC, u_eBin, u_eUn, u_eFn, u_eNot, u_eAnd, u_eOr, u_eIf, u_eTup, u_eLst, u_aCons, u_aNil, u_tB, u_tE, u_tNot, u_tAnd, u_tOr, keep, take, takes, hv, PV.toIo, PV.reFl, ofO, ofB, ofL, blOf, oIx, oAdd, oSub, oMul, oMod, oDiv, oPow, oI, oB, oGe, oLt, oLe, oGt, oInt, exitF, exit1, u_eCall, okArgs, back, isSl, runF, lim, nth, oLen, oAbs, u_eMu, muEnd, uAppend, uPop1, uInsert, u_eRg1, oRg, u_sFor, u_iRg1, u_iRg2, u_iSeq, ofX, seqOf, u_eCh, u_eSl, u_eMeth, u_eProp, u_eMake, u_eObj, u_gT, u_sAsg, u_sAt, u_tYesV, u_eLc, u_eMt, u_sRaise1, u_iEnumV, u_iZipV, u_eKd, u_eIsE, u_eFE, h, h1, wipeQ, restP, e, oTuple, e2, lst2]
theorem p_signs_bad (xs ys : List Int) (h : xs.length ≠ ys.length) : F_signs [recV xs, recV ys] = .exc "BadRecord" [recV ys] [recV xs, recV ys] := by
  unfold F_signs W_signs
  have h1 : ¬ (xs.length : Int) = ys.length := by omega
  simp [u_sSeq, u_sE, u_sSet, u_sRet, u_sRetN, u_sIf, u_sSub, u_sNx, u_sBk, u_sCt, u_eN, u_eC, u_eBin, u_eUn, u_eFn, u_eNot, u_eAnd, u_eOr, u_eIf, u_eTup, u_eLst, u_aCons, u_aNil, u_tB, u_tE, u_tNot, u_tAnd, u_tOr, keep, take, takes, hv, PV.toIo, PV.reFl, ofO, ofB, ofL, blOf, oIx, oAdd, oSub, oMul, oMod, oDiv, oPow, oI, oB, oGe, oLt, oLe, oGt, oInt, exitF, exit1, u_eCall, okArgs, back, isSl, runF, lim, nth, oLen, oAbs, u_eMu, muEnd, uAppend, uPop1, uInsert, u_eRg1, oRg, u_sFor, u_iRg1, u_iRg2, u_iSeq, ofX, seqOf, u_eCh, u_eSl, u_eMeth, u_eProp, u_eMake, u_eObj, u_gT, u_sAsg, u_sAt, u_tYesV, u_eLc, u_eMt, u_sRaise1, u_iEnumV, u_iZipV, u_eKd, u_eIsE, u_eFE, h, h1]
end Law

set_option linter.all false
set_option maxRecDepth 100000
namespace Law
open VL PySem My
theorem parT {ps : List (Option Nat)} {i : Nat} (h : i < ps.length) : L2.atI (ps.map pP) (i : Int) = some (pP (par ps i)) := par_atP h
theorem p_fpath (ps : List (Option Nat)) (ks : List Str) (i : Nat) (ac : Acy ps) (hn : ps.length ≤ 900) (hi : i < ps.length) : F_Forest__path [foV ps ks, .int (i : Int)] = .ok (.tup ((path ps i).map nP)) [foV ps ks, .int (i : Int)] := by
  obtain ⟨r, r1, r2⟩ := ac.rk
  have go : ∀ (m j : Nat) (rest : List Nat), r j < m → j < ps.length → rest.length + r j ≤ 900 → wh B_Forest__path_2 B_Forest__path_1 m [foV ps ks, .int (i : Int), .tup (.int (j : Int) :: rest.map nP)] = .ok .nx [foV ps ks, .int (i : Int), .tup ((path ps j ++ rest).map nP)] := by
    intro m
    induction m with
    | zero => intro j rest h; omega
    | succ m ih =>
      intro j rest hr hj hl
      have x0 : L2.atI (.int (j : Int) :: rest.map nP) 0 = some (.int (j : Int)) := atI_lt (by omega) rfl
      have x1 := parT hj
      have hb2 : B_Forest__path_2 [foV ps ks, .int (i : Int), .tup (.int (j : Int) :: rest.map nP)] = .ok (par ps j).isSome [foV ps ks, .int (i : Int), .tup (.int (j : Int) :: rest.map nP)] := by
        unfold B_Forest__path_2
        cases e : par ps j with
        | none => rw [e] at x1; simp [u_sSeq, u_sE, u_sSet, u_sRet, u_sRetN, u_sIf, u_sSub, u_sNx, u_sBk, u_sCt, u_eN, u_eC, u_eBin, u_eUn, u_eFn, u_eNot, u_eAnd, u_eOr, u_eIf, u_eTup, u_eLst, u_aCons, u_aNil, u_tB, u_tE, u_tNot, u_tAnd, u_tOr, keep, take, takes, hv, PV.toIo, PV.reFl, ofO, ofB, ofL, blOf, oIx, oAdd, oSub, oMul, oMod, oDiv, oPow, oI, oB, oGe, oLt, oLe, oGt, oInt, exitF, exit1, u_eCall, okArgs, back, isSl, runF, lim, nth, oLen, oAbs, u_eMu, muEnd, uAppend, uPop1, uInsert, u_eRg1, oRg, u_sFor, u_iRg1, u_iRg2, u_iSeq, ofX, seqOf, u_eCh, u_eSl, u_eMeth, u_eProp, u_eMake, u_eObj, u_gT, u_sAsg, u_sAt, u_tYesV, u_eLc, u_eMt, u_sRaise1, u_iEnumV, u_iZipV, u_eKd, u_eIsE, u_eFE, x0, x1, oAt]
        | some p => rw [e] at x1; simp [u_sSeq, u_sE, u_sSet, u_sRet, u_sRetN, u_sIf, u_sSub, u_sNx, u_sBk, u_sCt, u_eN, u_eC, u_eBin, u_eUn, u_eFn, u_eNot, u_eAnd, u_eOr, u_eIf, u_eTup, u_eLst, u_aCons, u_aNil, u_tB, u_tE, u_tNot, u_tAnd, u_tOr, keep, take, takes, hv, PV.toIo, PV.reFl, ofO, ofB, ofL, blOf, oIx, oAdd, oSub, oMul, oMod, oDiv, oPow, oI, oB, oGe, oLt, oLe, oGt, oInt, exitF, exit1, u_eCall, okArgs, back, isSl, runF, lim, nth, oLen, oAbs, u_eMu, muEnd, uAppend, uPop1, uInsert, u_eRg1, oRg, u_sFor, u_iRg1, u_iRg2, u_iSeq, ofX, seqOf, u_eCh, u_eSl, u_eMeth, u_eProp, u_eMake, u_eObj, u_gT, u_sAsg, u_sAt, u_tYesV, u_eLc, u_eMt, u_sRaise1, u_iEnumV, u_iZipV, u_eKd, u_eIsE, u_eFE, x0, x1, oAt]
      simp only [wh, hb2, R.bind_ok]
      cases e : par ps j with
      | none =>
        simp [path_root e]
      | some p =>
        rw [e] at x1
        have hp := r2 e
        have h9 : 1 + (rest.length + 1) ≤ 100000 := by omega
        have hb : B_Forest__path_1 [foV ps ks, .int (i : Int), .tup (.int (j : Int) :: rest.map nP)] = .ok .nx [foV ps ks, .int (i : Int), .tup (.int (p : Int) :: (j :: rest).map nP)] := by
          unfold B_Forest__path_1
          simp [u_sSeq, u_sE, u_sSet, u_sRet, u_sRetN, u_sIf, u_sSub, u_sNx, u_sBk, u_sCt, u_eN, u_eC, u_eBin, u_eUn, u_eFn, u_eNot, u_eAnd, u_eOr, u_eIf, u_eTup, u_eLst, u_aCons, u_aNil, u_tB, u_tE, u_tNot, u_tAnd, u_tOr, keep, take, takes, hv, PV.toIo, PV.reFl, ofO, ofB, ofL, blOf, oIx, oAdd, oSub, oMul, oMod, oDiv, oPow, oI, oB, oGe, oLt, oLe, oGt, oInt, exitF, exit1, u_eCall, okArgs, back, isSl, runF, lim, nth, oLen, oAbs, u_eMu, muEnd, uAppend, uPop1, uInsert, u_eRg1, oRg, u_sFor, u_iRg1, u_iRg2, u_iSeq, ofX, seqOf, u_eCh, u_eSl, u_eMeth, u_eProp, u_eMake, u_eObj, u_gT, u_sAsg, u_sAt, u_tYesV, u_eLc, u_eMt, u_sRaise1, u_iEnumV, u_iZipV, u_eKd, u_eIsE, u_eFE, x0, x1, oAt, h9]
        have := ih p (j :: rest) (by omega) (ac.lt e) (by simp; omega)
        rw [path_step ac e, List.append_assoc]
        simp only [Option.isSome_some, if_true, hb]
        exact this
  have hri := r1 i hi
  have e := go 1000 i [] (by omega) hi (by simp; omega)
  unfold F_Forest__path W_Forest__path sWh
  simp only [List.map_nil] at e
  simp [u_sSeq, u_sE, u_sSet, u_sRet, u_sRetN, u_sIf, u_sSub, u_sNx, u_sBk, u_sCt, u_eN, u_eC, u_eBin, u_eUn, u_eFn, u_eNot, u_eAnd, u_eOr, u_eIf, u_eTup, u_eLst, u_aCons, u_aNil, u_tB, u_tE, u_tNot, u_tAnd, u_tOr, keep, take, takes, hv, PV.toIo, PV.reFl, ofO, ofB, ofL, blOf, oIx, oAdd, oSub, oMul, oMod, oDiv, oPow, oI, oB, oGe, oLt, oLe, oGt, oInt, exitF, exit1, u_eCall, okArgs, back, isSl, runF, lim, nth, oLen, oAbs, u_eMu, muEnd, uAppend, uPop1, uInsert, u_eRg1, oRg, u_sFor, u_iRg1, u_iRg2, u_iSeq, ofX, seqOf, u_eCh, u_eSl, u_eMeth, u_eProp, u_eMake, u_eObj, u_gT, u_sAsg, u_sAt, u_tYesV, u_eLc, u_eMt, u_sRaise1, u_iEnumV, u_iZipV, u_eKd, u_eIsE, u_eFE, e]
def fm (row : List Int) : List Nat → Option Nat
  | [] => none
  | j :: js => if row.getD j 0 ≠ 0 then some j else fm row js
theorem p_first (ps : List (Option Nat)) (ks : List Str) (i : Nat) (row : List Int) (ac : Acy ps) (hn : ps.length ≤ 900) (hi : i < ps.length) (hr : row.length = ps.length) :
    F_first_marked [foV ps ks, .int (i : Int), recV row] = .ok (pP (fm row (path ps i))) [foV ps ks, .int (i : Int), recV row] := by
  have e := p_fpath ps ks i ac hn hi
  have go : ∀ (js : List Nat) (s3 : PV), s3.isIo = false → (∀ j ∈ js, j < ps.length) → ∃ s3', (fm row js = none ∧ loop (gN 3) B_first_marked_1 (js.map nP) [foV ps ks, .int (i : Int), recV row, s3] = .ok .nx [foV ps ks, .int (i : Int), recV row, s3']) ∨ (∃ j, fm row js = some j ∧ loop (gN 3) B_first_marked_1 (js.map nP) [foV ps ks, .int (i : Int), recV row, s3] = .ok (.rt (.int (j : Int))) [foV ps ks, .int (i : Int), recV row, s3']) := by
    intro js
    induction js with
    | nil => intro s3 _ _; exact ⟨s3, .inl ⟨rfl, rfl⟩⟩
    | cons j js ih =>
      intro s3 h3 hm
      have hj := hm j List.mem_cons_self
      obtain ⟨v, hvv⟩ : ∃ v, row[j]? = some v := ⟨_, List.getElem?_eq_getElem (by omega)⟩
      have x1 : L2.atI (row.map PV.int) (j : Int) = some (PV.int v) := atI_n (by rw [List.getElem?_map, hvv]; rfl)
      have x2 : row.getD j 0 = v := by simp [hvv]
      have tg : gN 3 (.int (j : Int)) [foV ps ks, .int (i : Int), recV row, s3] = some [foV ps ks, .int (i : Int), recV row, .int (j : Int)] := gN_ok h3
      by_cases h0 : v = 0
      · have hb : B_first_marked_1 [foV ps ks, .int (i : Int), recV row, .int (j : Int)] = .ok .nx [foV ps ks, .int (i : Int), recV row, .int (j : Int)] := by
          unfold B_first_marked_1
          simp [u_sSeq, u_sE, u_sSet, u_sRet, u_sRetN, u_sIf, u_sSub, u_sNx, u_sBk, u_sCt, u_eN, u_eC, u_eBin, u_eUn, u_eFn, u_eNot, u_eAnd, u_eOr, u_eIf, u_eTup, u_eLst, u_aCons, u_aNil, u_tB, u_tE, u_tNot, u_tAnd, u_tOr, keep, take, takes, hv, PV.toIo, PV.reFl, ofO, ofB, ofL, blOf, oIx, oAdd, oSub, oMul, oMod, oDiv, oPow, oI, oB, oGe, oLt, oLe, oGt, oInt, exitF, exit1, u_eCall, okArgs, back, isSl, runF, lim, nth, oLen, oAbs, u_eMu, muEnd, uAppend, uPop1, uInsert, u_eRg1, oRg, u_sFor, u_iRg1, u_iRg2, u_iSeq, ofX, seqOf, u_eCh, u_eSl, u_eMeth, u_eProp, u_eMake, u_eObj, u_gT, u_sAsg, u_sAt, u_tYesV, u_eLc, u_eMt, u_sRaise1, u_iEnumV, u_iZipV, u_eKd, u_eIsE, u_eFE, x1, h0]
        obtain ⟨s3', q⟩ := ih (.int (j : Int)) rfl (fun x hx => hm x (List.mem_cons_of_mem _ hx))
        refine ⟨s3', ?_⟩
        simp only [List.map_cons, loop, tg, hb, fm, x2, h0, ne_eq, not_true, if_false]
        exact q
      · have hb : ∃ s, B_first_marked_1 [foV ps ks, .int (i : Int), recV row, .int (j : Int)] = .ok (.rt (.int (j : Int))) [foV ps ks, .int (i : Int), recV row, s] := by
          unfold B_first_marked_1
          refine ⟨.emp, ?_⟩
          simp [u_sSeq, u_sE, u_sSet, u_sRet, u_sRetN, u_sIf, u_sSub, u_sNx, u_sBk, u_sCt, u_eN, u_eC, u_eBin, u_eUn, u_eFn, u_eNot, u_eAnd, u_eOr, u_eIf, u_eTup, u_eLst, u_aCons, u_aNil, u_tB, u_tE, u_tNot, u_tAnd, u_tOr, keep, take, takes, hv, PV.toIo, PV.reFl, ofO, ofB, ofL, blOf, oIx, oAdd, oSub, oMul, oMod, oDiv, oPow, oI, oB, oGe, oLt, oLe, oGt, oInt, exitF, exit1, u_eCall, okArgs, back, isSl, runF, lim, nth, oLen, oAbs, u_eMu, muEnd, uAppend, uPop1, uInsert, u_eRg1, oRg, u_sFor, u_iRg1, u_iRg2, u_iSeq, ofX, seqOf, u_eCh, u_eSl, u_eMeth, u_eProp, u_eMake, u_eObj, u_gT, u_sAsg, u_sAt, u_tYesV, u_eLc, u_eMt, u_sRaise1, u_iEnumV, u_iZipV, u_eKd, u_eIsE, u_eFE, x1, h0]
        obtain ⟨s, hb⟩ := hb
        refine ⟨s, .inr ⟨j, ?_, ?_⟩⟩
        · simp only [fm, x2, ne_eq, h0, not_false_iff, if_true]
        · simp only [List.map_cons, loop, tg, hb]
  obtain ⟨s3', q⟩ := go (path ps i) .emp rfl (path_lt ac hi)
  unfold F_first_marked W_first_marked
  rcases q with ⟨q1, q2⟩ | ⟨j, q1, q2⟩
  · rw [q1]
    simp [u_sSeq, u_sE, u_sSet, u_sRet, u_sRetN, u_sIf, u_sSub, u_sNx, u_sBk, u_sCt, u_eN, u_eC, u_eBin, u_eUn, u_eFn, u_eNot, u_eAnd, u_eOr, u_eIf, u_eTup, u_eLst, u_aCons, u_aNil, u_tB, u_tE, u_tNot, u_tAnd, u_tOr, keep, take, takes, hv, PV.toIo, PV.reFl, ofO, ofB, ofL, blOf, oIx, oAdd, oSub, oMul, oMod, oDiv, oPow, oI, oB, oGe, oLt, oLe, oGt, oInt, exitF, exit1, u_eCall, okArgs, back, isSl, runF, lim, nth, oLen, oAbs, u_eMu, muEnd, uAppend, uPop1, uInsert, u_eRg1, oRg, u_sFor, u_iRg1, u_iRg2, u_iSeq, ofX, seqOf, u_eCh, u_eSl, u_eMeth, u_eProp, u_eMake, u_eObj, u_gT, u_sAsg, u_sAt, u_tYesV, u_eLc, u_eMt, u_sRaise1, u_iEnumV, u_iZipV, u_eKd, u_eIsE, u_eFE, isObj, callH, e, q2]
  · rw [q1]
    simp [u_sSeq, u_sE, u_sSet, u_sRet, u_sRetN, u_sIf, u_sSub, u_sNx, u_sBk, u_sCt, u_eN, u_eC, u_eBin, u_eUn, u_eFn, u_eNot, u_eAnd, u_eOr, u_eIf, u_eTup, u_eLst, u_aCons, u_aNil, u_tB, u_tE, u_tNot, u_tAnd, u_tOr, keep, take, takes, hv, PV.toIo, PV.reFl, ofO, ofB, ofL, blOf, oIx, oAdd, oSub, oMul, oMod, oDiv, oPow, oI, oB, oGe, oLt, oLe, oGt, oInt, exitF, exit1, u_eCall, okArgs, back, isSl, runF, lim, nth, oLen, oAbs, u_eMu, muEnd, uAppend, uPop1, uInsert, u_eRg1, oRg, u_sFor, u_iRg1, u_iRg2, u_iSeq, ofX, seqOf, u_eCh, u_eSl, u_eMeth, u_eProp, u_eMake, u_eObj, u_gT, u_sAsg, u_sAt, u_tYesV, u_eLc, u_eMt, u_sRaise1, u_iEnumV, u_iZipV, u_eKd, u_eIsE, u_eFE, isObj, callH, e, q2]
end Law

set_option linter.all false
set_option maxRecDepth 100000
namespace Law
open VL PySem My
def sideOf (k : Str) (m : Int) : Str := if k = "first" then "older" else if k = "last" then "newer" else if k = "up" then (if m < 0 then "newer" else "older") else (if m < 0 then "older" else "newer")
theorem p_side_by (k : Str) (m : Int) (h : word4 k) : F_side_by [.str k, .int m] = .ok (.str (sideOf k m)) [.str k, .int m] := by
  unfold F_side_by W_side_by sideOf
  by_cases hm : m < 0
  · rcases h with rfl | rfl | rfl | rfl <;> simp [u_sSeq, u_sE, u_sSet, u_sRet, u_sRetN, u_sIf, u_sSub, u_sNx, u_sBk, u_sCt, u_eN, u_eC, u_eBin, u_eUn, u_eFn, u_eNot, u_eAnd, u_eOr, u_eIf, u_eTup, u_eLst, u_aCons, u_aNil, u_tB, u_tE, u_tNot, u_tAnd, u_tOr, keep, take, takes, hv, PV.toIo, PV.reFl, ofO, ofB, ofL, blOf, oIx, oAdd, oSub, oMul, oMod, oDiv, oPow, oI, oB, oGe, oLt, oLe, oGt, oInt, exitF, exit1, u_eCall, okArgs, back, isSl, runF, lim, nth, oLen, oAbs, u_eMu, muEnd, uAppend, uPop1, uInsert, u_eRg1, oRg, u_sFor, u_iRg1, u_iRg2, u_iSeq, ofX, seqOf, u_eCh, u_eSl, u_eMeth, u_eProp, u_eMake, u_eObj, u_gT, u_sAsg, u_sAt, u_tYesV, u_eLc, u_eMt, u_sRaise1, u_iEnumV, u_iZipV, u_eKd, u_eIsE, u_eFE, tab_SIDES, List.lookup, gL, hm]
  · rcases h with rfl | rfl | rfl | rfl <;> simp [u_sSeq, u_sE, u_sSet, u_sRet, u_sRetN, u_sIf, u_sSub, u_sNx, u_sBk, u_sCt, u_eN, u_eC, u_eBin, u_eUn, u_eFn, u_eNot, u_eAnd, u_eOr, u_eIf, u_eTup, u_eLst, u_aCons, u_aNil, u_tB, u_tE, u_tNot, u_tAnd, u_tOr, keep, take, takes, hv, PV.toIo, PV.reFl, ofO, ofB, ofL, blOf, oIx, oAdd, oSub, oMul, oMod, oDiv, oPow, oI, oB, oGe, oLt, oLe, oGt, oInt, exitF, exit1, u_eCall, okArgs, back, isSl, runF, lim, nth, oLen, oAbs, u_eMu, muEnd, uAppend, uPop1, uInsert, u_eRg1, oRg, u_sFor, u_iRg1, u_iRg2, u_iSeq, ofX, seqOf, u_eCh, u_eSl, u_eMeth, u_eProp, u_eMake, u_eObj, u_gT, u_sAsg, u_sAt, u_tYesV, u_eLc, u_eMt, u_sRaise1, u_iEnumV, u_iZipV, u_eKd, u_eIsE, u_eFE, tab_SIDES, List.lookup, gL, hm]
theorem fm_some {row : List Int} : ∀ {js : List Nat} {j : Nat}, fm row js = some j → j ∈ js ∧ row.getD j 0 ≠ 0
  | [], _, h => by cases h
  | i :: js, j, h => by
    simp only [fm] at h
    split at h
    · rename_i h0; cases h; exact ⟨List.mem_cons_self, h0⟩
    · have := fm_some h; exact ⟨List.mem_cons_of_mem _ this.1, this.2⟩
theorem p_fside (ps : List (Option Nat)) (ks : List Str) (i : Nat) (row : List Int) (ok : FOk ps ks) (hi : i < ps.length) (hr : row.length = ps.length) :
    F_forest_side [foV ps ks, .int (i : Int), recV row] = .ok (.str (match fm row (path ps i) with | none => "same" | some j => sideOf (ks.getD j "") (row.getD j 0))) [foV ps ks, .int (i : Int), recV row] := by
  have e := p_first ps ks i row ok.acy (by have := ok.most; omega) hi hr
  unfold F_forest_side W_forest_side
  cases q : fm row (path ps i) with
  | none =>
    rw [q] at e
    simp [u_sSeq, u_sE, u_sSet, u_sRet, u_sRetN, u_sIf, u_sSub, u_sNx, u_sBk, u_sCt, u_eN, u_eC, u_eBin, u_eUn, u_eFn, u_eNot, u_eAnd, u_eOr, u_eIf, u_eTup, u_eLst, u_aCons, u_aNil, u_tB, u_tE, u_tNot, u_tAnd, u_tOr, keep, take, takes, hv, PV.toIo, PV.reFl, ofO, ofB, ofL, blOf, oIx, oAdd, oSub, oMul, oMod, oDiv, oPow, oI, oB, oGe, oLt, oLe, oGt, oInt, exitF, exit1, u_eCall, okArgs, back, isSl, runF, lim, nth, oLen, oAbs, u_eMu, muEnd, uAppend, uPop1, uInsert, u_eRg1, oRg, u_sFor, u_iRg1, u_iRg2, u_iSeq, ofX, seqOf, u_eCh, u_eSl, u_eMeth, u_eProp, u_eMake, u_eObj, u_gT, u_sAsg, u_sAt, u_tYesV, u_eLc, u_eMt, u_sRaise1, u_iEnumV, u_iZipV, u_eKd, u_eIsE, u_eFE, e]
  | some j =>
    rw [q] at e
    have hj := path_lt ok.acy hi j (fm_some q).1
    have hk : j < ks.length := by rw [ok.k.len]; exact hj
    obtain ⟨k, hkk⟩ : ∃ k, ks[j]? = some k := ⟨_, List.getElem?_eq_getElem hk⟩
    obtain ⟨v, hvv⟩ : ∃ v, row[j]? = some v := ⟨_, List.getElem?_eq_getElem (by omega)⟩
    have x1 : L2.atI (ks.map PV.str) (j : Int) = some (PV.str k) := atI_n (by rw [List.getElem?_map, hkk]; rfl)
    have x2 : L2.atI (row.map PV.int) (j : Int) = some (PV.int v) := atI_n (by rw [List.getElem?_map, hvv]; rfl)
    have e2 := p_side_by k v (ok.k.w k (List.mem_of_getElem? hkk))
    have x3 : ks.getD j "" = k := by simp [hkk]
    have x4 : row.getD j 0 = v := by simp [hvv]
    simp [u_sSeq, u_sE, u_sSet, u_sRet, u_sRetN, u_sIf, u_sSub, u_sNx, u_sBk, u_sCt, u_eN, u_eC, u_eBin, u_eUn, u_eFn, u_eNot, u_eAnd, u_eOr, u_eIf, u_eTup, u_eLst, u_aCons, u_aNil, u_tB, u_tE, u_tNot, u_tAnd, u_tOr, keep, take, takes, hv, PV.toIo, PV.reFl, ofO, ofB, ofL, blOf, oIx, oAdd, oSub, oMul, oMod, oDiv, oPow, oI, oB, oGe, oLt, oLe, oGt, oInt, exitF, exit1, u_eCall, okArgs, back, isSl, runF, lim, nth, oLen, oAbs, u_eMu, muEnd, uAppend, uPop1, uInsert, u_eRg1, oRg, u_sFor, u_iRg1, u_iRg2, u_iSeq, ofX, seqOf, u_eCh, u_eSl, u_eMeth, u_eProp, u_eMake, u_eObj, u_gT, u_sAsg, u_sAt, u_tYesV, u_eLc, u_eMt, u_sRaise1, u_iEnumV, u_iZipV, u_eKd, u_eIsE, u_eFE, e, x1, x2, e2, oAt, hkk, hvv]
def fd (xs ys : List Int) : List Nat → Option Nat
  | [] => none
  | j :: js => if xs.getD j 0 ≠ ys.getD j 0 then some j else fd xs ys js
theorem sg_zero {a b : Int} : sg a b = 0 ↔ a = b := by unfold sg; split <;> (try split) <;> omega
theorem sgL_at {xs ys : List Int} {j : Nat} (h1 : j < xs.length) (h2 : j < ys.length) : (sgL xs ys).getD j 0 = sg (xs.getD j 0) (ys.getD j 0) := by
  simp [sgL, List.getElem?_zipWith, h1, h2]
theorem fm_fd {xs ys : List Int} {n : Nat} (h1 : xs.length = n) (h2 : ys.length = n) : ∀ {js : List Nat}, (∀ j ∈ js, j < n) → fm (sgL xs ys) js = fd xs ys js
  | [], _ => rfl
  | j :: js, h => by
    have hj := h j List.mem_cons_self
    simp only [fm, fd, sgL_at (h1 ▸ hj) (h2 ▸ hj), fm_fd h1 h2 (fun x hx => h x (List.mem_cons_of_mem _ hx)), ne_eq, sg_zero]
def newerK (k : Str) (x y : Int) : Bool := if k = "first" then false else if k = "last" then true else (decide (y < x)) != (k == "up")
def sideN (ps : List (Option Nat)) (ks : List Str) (xs ys : List Int) (f : Nat) : Bool := match fd xs ys (path ps f) with
  | none => false
  | some j => newerK (ks.getD j "") (xs.getD j 0) (ys.getD j 0)
theorem side_newer {k : Str} {x y : Int} (h : word4 k) (hne : x ≠ y) : (sideOf k (sg x y) == "newer") = newerK k x y := by
  unfold sideOf newerK sg
  by_cases h1 : x < y
  · have h2 : ¬ y < x := by omega
    rcases h with rfl | rfl | rfl | rfl <;> simp [h1, h2]
  · have h2 : y < x := by omega
    rcases h with rfl | rfl | rfl | rfl <;> simp [h1, h2]
def mg (ps : List (Option Nat)) (ks : List Str) (xs ys : List Int) : List Int := (List.range ps.length).map fun f => if sideN ps ks xs ys f = true then ys.getD f 0 else xs.getD f 0
theorem p_call (ps : List (Option Nat)) (ks : List Str) (xs ys : List Int) (ok : FOk ps ks) (h1 : xs.length = ps.length) (h2 : ys.length = ps.length) :
    F_Forest____call__ [foV ps ks, recV xs, recV ys] = .ok (recV (mg ps ks xs ys)) [foV ps ks, recV xs, recV ys] := by
  have c1 := p_crec ps.length xs h1
  have c2 := p_crec ps.length ys h2
  have most := ok.most
  have e := p_signs xs ys (by omega) (by omega)
  obtain ⟨zs, ρ', e3, e1, rfl⟩ := lcl_rg (t := gN 4) (tt := tYesV) (fe := B_Forest____call___1) (own := [4]) (acc := []) (a := 0) (b := ps.length) (ρ := [foV ps ks, recV xs, recV ys, recV (sgL xs ys), .emp])
    (fun i acc ρ => acc = ((mg ps ks xs ys).take i.toNat).map .int ∧ ρ = [foV ps ks, recV xs, recV ys, recV (sgL xs ys), .emp]) (by omega) ⟨by simp, rfl⟩ (by
    rintro i acc ρ i0 i1 ⟨rfl, rfl⟩
    obtain ⟨m, rfl⟩ : ∃ m : Nat, i = m := ⟨i.toNat, by omega⟩
    have hm : m < ps.length := by omega
    have e := p_fside ps ks m (sgL xs ys) ok hm (by simp [sgL]; omega)
    rw [fm_fd h1 h2 (path_lt ok.acy hm)] at e
    obtain ⟨x, hx⟩ : ∃ x, xs[m]? = some x := ⟨_, List.getElem?_eq_getElem (by omega)⟩
    obtain ⟨y, hy⟩ : ∃ y, ys[m]? = some y := ⟨_, List.getElem?_eq_getElem (by omega)⟩
    have x1 : L2.atI (xs.map PV.int) (m : Int) = some (PV.int x) := atI_n (by rw [List.getElem?_map, hx]; rfl)
    have x2 : L2.atI (ys.map PV.int) (m : Int) = some (PV.int y) := atI_n (by rw [List.getElem?_map, hy]; rfl)
    have hb : B_Forest____call___1 [foV ps ks, recV xs, recV ys, recV (sgL xs ys), .int m] = .ok (.tm (.int (if sideN ps ks xs ys m = true then y else x))) [foV ps ks, recV xs, recV ys, recV (sgL xs ys), .int m] := by
      unfold B_Forest____call___1
      cases q : fd xs ys (path ps m) with
      | none =>
        rw [q] at e
        have s : sideN ps ks xs ys m = false := by unfold sideN; rw [q]
        simp [u_sSeq, u_sE, u_sSet, u_sRet, u_sRetN, u_sIf, u_sSub, u_sNx, u_sBk, u_sCt, u_eN, u_eC, u_eBin, u_eUn, u_eFn, u_eNot, u_eAnd, u_eOr, u_eIf, u_eTup, u_eLst, u_aCons, u_aNil, u_tB, u_tE, u_tNot, u_tAnd, u_tOr, keep, take, takes, hv, PV.toIo, PV.reFl, ofO, ofB, ofL, blOf, oIx, oAdd, oSub, oMul, oMod, oDiv, oPow, oI, oB, oGe, oLt, oLe, oGt, oInt, exitF, exit1, u_eCall, okArgs, back, isSl, runF, lim, nth, oLen, oAbs, u_eMu, muEnd, uAppend, uPop1, uInsert, u_eRg1, oRg, u_sFor, u_iRg1, u_iRg2, u_iSeq, ofX, seqOf, u_eCh, u_eSl, u_eMeth, u_eProp, u_eMake, u_eObj, u_gT, u_sAsg, u_sAt, u_tYesV, u_eLc, u_eMt, u_sRaise1, u_iEnumV, u_iZipV, u_eKd, u_eIsE, u_eFE, e, oEq_str, x1, s]
      | some j =>
        rw [q] at e
        have q' := q
        rw [← fm_fd h1 h2 (path_lt ok.acy hm)] at q'
        obtain ⟨jm, jn⟩ := fm_some q'
        have hj := path_lt ok.acy hm j jm
        obtain ⟨k, hkk⟩ : ∃ k, ks[j]? = some k := ⟨_, List.getElem?_eq_getElem (by rw [ok.k.len]; exact hj)⟩
        have w4 := ok.k.w k (List.mem_of_getElem? hkk)
        have x3 : ks.getD j "" = k := by simp [hkk]
        have sga : (sgL xs ys).getD j 0 = sg (xs.getD j 0) (ys.getD j 0) := sgL_at (by omega) (by omega)
        rw [sga] at jn
        simp only [sga] at e
        have hne : xs.getD j 0 ≠ ys.getD j 0 := fun z => jn (sg_zero.mpr z)
        have s := side_newer w4 hne
        have s2 : sideN ps ks xs ys m = newerK k (xs.getD j 0) (ys.getD j 0) := by unfold sideN; rw [q]; simp only [x3]
        simp only [x3] at e
        have so : PyData.strOk (sideOf k (sg (xs.getD j 0) (ys.getD j 0))) = true := by
          unfold sideOf
          split
          · simp
          · split
            · simp
            · split <;> split <;> simp
        generalize sideOf k (sg (xs.getD j 0) (ys.getD j 0)) = S at e s so
        rw [s2, ← s]
        by_cases hS : S = "newer"
        · subst hS
          simp [u_sSeq, u_sE, u_sSet, u_sRet, u_sRetN, u_sIf, u_sSub, u_sNx, u_sBk, u_sCt, u_eN, u_eC, u_eBin, u_eUn, u_eFn, u_eNot, u_eAnd, u_eOr, u_eIf, u_eTup, u_eLst, u_aCons, u_aNil, u_tB, u_tE, u_tNot, u_tAnd, u_tOr, keep, take, takes, hv, PV.toIo, PV.reFl, ofO, ofB, ofL, blOf, oIx, oAdd, oSub, oMul, oMod, oDiv, oPow, oI, oB, oGe, oLt, oLe, oGt, oInt, exitF, exit1, u_eCall, okArgs, back, isSl, runF, lim, nth, oLen, oAbs, u_eMu, muEnd, uAppend, uPop1, uInsert, u_eRg1, oRg, u_sFor, u_iRg1, u_iRg2, u_iSeq, ofX, seqOf, u_eCh, u_eSl, u_eMeth, u_eProp, u_eMake, u_eObj, u_gT, u_sAsg, u_sAt, u_tYesV, u_eLc, u_eMt, u_sRaise1, u_iEnumV, u_iZipV, u_eKd, u_eIsE, u_eFE, e, oEq_str, x1, x2]
        · have : (S == "newer") = false := by simpa using hS
          simp [u_sSeq, u_sE, u_sSet, u_sRet, u_sRetN, u_sIf, u_sSub, u_sNx, u_sBk, u_sCt, u_eN, u_eC, u_eBin, u_eUn, u_eFn, u_eNot, u_eAnd, u_eOr, u_eIf, u_eTup, u_eLst, u_aCons, u_aNil, u_tB, u_tE, u_tNot, u_tAnd, u_tOr, keep, take, takes, hv, PV.toIo, PV.reFl, ofO, ofB, ofL, blOf, oIx, oAdd, oSub, oMul, oMod, oDiv, oPow, oI, oB, oGe, oLt, oLe, oGt, oInt, exitF, exit1, u_eCall, okArgs, back, isSl, runF, lim, nth, oLen, oAbs, u_eMu, muEnd, uAppend, uPop1, uInsert, u_eRg1, oRg, u_sFor, u_iRg1, u_iRg2, u_iSeq, ofX, seqOf, u_eCh, u_eSl, u_eMeth, u_eProp, u_eMake, u_eObj, u_gT, u_sAsg, u_sAt, u_tYesV, u_eLc, u_eMt, u_sRaise1, u_iEnumV, u_iZipV, u_eKd, u_eIsE, u_eFE, e, oEq_str, so, x1, x2, hS, this]
    refine ⟨_, _, _, _, _, _, gN_ok rfl, rfl, hb, rfl, by simp [lim]; omega, ?_, rfl⟩
    have g : (mg ps ks xs ys)[m]? = some (if sideN ps ks xs ys m = true then y else x) := by simp [mg, hm, hx, hy]
    rw [show ((m : Int) + 1).toNat = m + 1 from by omega, show (m : Int).toNat = m from by omega, List.take_add_one, g]
    simp)
  have e2 : zs = (mg ps ks xs ys).map .int := by
    rw [e1, List.take_of_length_le]
    simp [mg]
  have q1 : ps.length ≤ 100000 := by omega
  unfold F_Forest____call__ W_Forest____call__
  simp [u_sSeq, u_sE, u_sSet, u_sRet, u_sRetN, u_sIf, u_sSub, u_sNx, u_sBk, u_sCt, u_eN, u_eC, u_eBin, u_eUn, u_eFn, u_eNot, u_eAnd, u_eOr, u_eIf, u_eTup, u_eLst, u_aCons, u_aNil, u_tB, u_tE, u_tNot, u_tAnd, u_tOr, keep, take, takes, hv, PV.toIo, PV.reFl, ofO, ofB, ofL, blOf, oIx, oAdd, oSub, oMul, oMod, oDiv, oPow, oI, oB, oGe, oLt, oLe, oGt, oInt, exitF, exit1, u_eCall, okArgs, back, isSl, runF, lim, nth, oLen, oAbs, u_eMu, muEnd, uAppend, uPop1, uInsert, u_eRg1, oRg, u_sFor, u_iRg1, u_iRg2, u_iSeq, ofX, seqOf, u_eCh, u_eSl, u_eMeth, u_eProp, u_eMake, u_eObj, u_gT, u_sAsg, u_sAt, u_tYesV, u_eLc, u_eMt, u_sRaise1, u_iEnumV, u_iZipV, u_eKd, u_eIsE, u_eFE, oAt, c1, c2, e, q1, wipeQ, restP, e3, oTuple, e2]
end Law

set_option linter.all false
set_option maxRecDepth 100000
namespace Law
open VL PySem My
@[simp] theorem kb1 : L2.kitB "int" "int" = some true := by decide +kernel
@[simp] theorem kb2 : L2.kitB "int" "bool" = some false := by decide +kernel
@[simp] theorem kb3 : L2.kitB "tuple" "tuple" = some true := by decide +kernel
@[simp] theorem kb4 : L2.kitB "bool" "bool" = some true := by decide +kernel
theorem p_isint (v : Int) : F__law_is_integer [.int v] = .ok (.bl true) [.int v] := by
  unfold F__law_is_integer W__law_is_integer
  simp [u_sSeq, u_sE, u_sSet, u_sRet, u_sRetN, u_sIf, u_sSub, u_sNx, u_sBk, u_sCt, u_eN, u_eC, u_eBin, u_eUn, u_eFn, u_eNot, u_eAnd, u_eOr, u_eIf, u_eTup, u_eLst, u_aCons, u_aNil, u_tB, u_tE, u_tNot, u_tAnd, u_tOr, keep, take, takes, hv, PV.toIo, PV.reFl, ofO, ofB, ofL, blOf, oIx, oAdd, oSub, oMul, oMod, oDiv, oPow, oI, oB, oGe, oLt, oLe, oGt, oInt, exitF, exit1, u_eCall, okArgs, back, isSl, runF, lim, nth, oLen, oAbs, u_eMu, muEnd, uAppend, uPop1, uInsert, u_eRg1, oRg, u_sFor, u_iRg1, u_iRg2, u_iSeq, ofX, seqOf, u_eCh, u_eSl, u_eMeth, u_eProp, u_eMake, u_eObj, u_gT, u_sAsg, u_sAt, u_tYesV, u_eLc, u_eMt, u_sRaise1, u_iEnumV, u_iZipV, u_eKd, u_eIsE, u_eFE, oIsi, tyN, tru]
theorem p_isrec (xs : List Int) (n : Nat) (h : xs.length = n) : F__law_is_record [recV xs, .int n] = .ok (.bl true) [recV xs, .int n] := by
  obtain ⟨ρ', e, s2, i2, rfl⟩ := loop_ls (t := gN 2) (f := B__law_is_record_1) (xs := xs.map .int) (ρ := [recV xs, .int n, .emp]) (fun i ρ => ∃ s2 : PV, s2.isIo = false ∧ ρ = [recV xs, .int n, s2]) ⟨_, rfl, rfl⟩ (by
    rintro i b ρ hb ⟨s2, i2, rfl⟩
    rw [List.getElem?_map] at hb
    obtain ⟨v, hvv, rfl⟩ := Option.map_eq_some_iff.mp hb
    have e := p_isint v
    refine ⟨_, [recV xs, .int n, .int v], gN_ok i2, ?_, _, rfl, rfl⟩
    unfold B__law_is_record_1
    simp [u_sSeq, u_sE, u_sSet, u_sRet, u_sRetN, u_sIf, u_sSub, u_sNx, u_sBk, u_sCt, u_eN, u_eC, u_eBin, u_eUn, u_eFn, u_eNot, u_eAnd, u_eOr, u_eIf, u_eTup, u_eLst, u_aCons, u_aNil, u_tB, u_tE, u_tNot, u_tAnd, u_tOr, keep, take, takes, hv, PV.toIo, PV.reFl, ofO, ofB, ofL, blOf, oIx, oAdd, oSub, oMul, oMod, oDiv, oPow, oI, oB, oGe, oLt, oLe, oGt, oInt, exitF, exit1, u_eCall, okArgs, back, isSl, runF, lim, nth, oLen, oAbs, u_eMu, muEnd, uAppend, uPop1, uInsert, u_eRg1, oRg, u_sFor, u_iRg1, u_iRg2, u_iSeq, ofX, seqOf, u_eCh, u_eSl, u_eMeth, u_eProp, u_eMake, u_eObj, u_gT, u_sAsg, u_sAt, u_tYesV, u_eLc, u_eMt, u_sRaise1, u_iEnumV, u_iZipV, u_eKd, u_eIsE, u_eFE, e, tru])
  unfold F__law_is_record W__law_is_record
  simp [u_sSeq, u_sE, u_sSet, u_sRet, u_sRetN, u_sIf, u_sSub, u_sNx, u_sBk, u_sCt, u_eN, u_eC, u_eBin, u_eUn, u_eFn, u_eNot, u_eAnd, u_eOr, u_eIf, u_eTup, u_eLst, u_aCons, u_aNil, u_tB, u_tE, u_tNot, u_tAnd, u_tOr, keep, take, takes, hv, PV.toIo, PV.reFl, ofO, ofB, ofL, blOf, oIx, oAdd, oSub, oMul, oMod, oDiv, oPow, oI, oB, oGe, oLt, oLe, oGt, oInt, exitF, exit1, u_eCall, okArgs, back, isSl, runF, lim, nth, oLen, oAbs, u_eMu, muEnd, uAppend, uPop1, uInsert, u_eRg1, oRg, u_sFor, u_iRg1, u_iRg2, u_iSeq, ofX, seqOf, u_eCh, u_eSl, u_eMeth, u_eProp, u_eMake, u_eObj, u_gT, u_sAsg, u_sAt, u_tYesV, u_eLc, u_eMt, u_sRaise1, u_iEnumV, u_iZipV, u_eKd, u_eIsE, u_eFE, oIsi, tyN, tru, h, sForN, e]
theorem same_loop (ws : List (Option Int)) (E : PV) (hE : E = .lst .io (ws.map fun o => match o with | none => .non | some i => .int i) ∨ E = .tup (ws.map fun o => match o with | none => .non | some i => .int i)) :
    ∃ s2, s2.isIo = false ∧ loop (gN 2) B__law_same_1 (rgL 0 ws.length) [.tup (ws.map fun o => match o with | none => .non | some i => .int i), E, .emp] = .ok .nx [.tup (ws.map fun o => match o with | none => .non | some i => .int i), E, s2] := by
  obtain ⟨ρ', e, s2, i2, rfl⟩ := loop_rg (t := gN 2) (f := B__law_same_1) (a := 0) (b := ws.length) (ρ := [.tup (ws.map fun o => match o with | none => .non | some i => .int i), E, .emp]) (fun i ρ => ∃ s2 : PV, s2.isIo = false ∧ ρ = [.tup (ws.map fun o => match o with | none => .non | some i => .int i), E, s2]) (by omega) ⟨_, rfl, rfl⟩ (by
    rintro i ρ h0 h1 ⟨s2, i2, rfl⟩
    obtain ⟨m, rfl⟩ : ∃ m : Nat, i = m := ⟨i.toNat, by omega⟩
    have hm : m < ws.length := by omega
    refine ⟨_, [.tup (ws.map fun o => match o with | none => .non | some i => .int i), E, .int m], gN_ok i2, ?_, _, rfl, rfl⟩
    have x1 : L2.atI (ws.map fun o => match o with | none => PV.non | some i => PV.int i) (m : Int) = some (match ws[m] with | none => PV.non | some i => PV.int i) := atI_n (by rw [List.getElem?_map, List.getElem?_eq_getElem hm]; rfl)
    unfold B__law_same_1
    cases q : ws[m] with
    | none =>
      rw [q] at x1
      rcases hE with rfl | rfl <;> simp [u_sSeq, u_sE, u_sSet, u_sRet, u_sRetN, u_sIf, u_sSub, u_sNx, u_sBk, u_sCt, u_eN, u_eC, u_eBin, u_eUn, u_eFn, u_eNot, u_eAnd, u_eOr, u_eIf, u_eTup, u_eLst, u_aCons, u_aNil, u_tB, u_tE, u_tNot, u_tAnd, u_tOr, keep, take, takes, hv, PV.toIo, PV.reFl, ofO, ofB, ofL, blOf, oIx, oAdd, oSub, oMul, oMod, oDiv, oPow, oI, oB, oGe, oLt, oLe, oGt, oInt, exitF, exit1, u_eCall, okArgs, back, isSl, runF, lim, nth, oLen, oAbs, u_eMu, muEnd, uAppend, uPop1, uInsert, u_eRg1, oRg, u_sFor, u_iRg1, u_iRg2, u_iSeq, ofX, seqOf, u_eCh, u_eSl, u_eMeth, u_eProp, u_eMake, u_eObj, u_gT, u_sAsg, u_sAt, u_tYesV, u_eLc, u_eMt, u_sRaise1, u_iEnumV, u_iZipV, u_eKd, u_eIsE, u_eFE, x1]
    | some v =>
      rw [q] at x1
      have e := p_isint v
      rcases hE with rfl | rfl <;> simp [u_sSeq, u_sE, u_sSet, u_sRet, u_sRetN, u_sIf, u_sSub, u_sNx, u_sBk, u_sCt, u_eN, u_eC, u_eBin, u_eUn, u_eFn, u_eNot, u_eAnd, u_eOr, u_eIf, u_eTup, u_eLst, u_aCons, u_aNil, u_tB, u_tE, u_tNot, u_tAnd, u_tOr, keep, take, takes, hv, PV.toIo, PV.reFl, ofO, ofB, ofL, blOf, oIx, oAdd, oSub, oMul, oMod, oDiv, oPow, oI, oB, oGe, oLt, oLe, oGt, oInt, exitF, exit1, u_eCall, okArgs, back, isSl, runF, lim, nth, oLen, oAbs, u_eMu, muEnd, uAppend, uPop1, uInsert, u_eRg1, oRg, u_sFor, u_iRg1, u_iRg2, u_iSeq, ofX, seqOf, u_eCh, u_eSl, u_eMeth, u_eProp, u_eMake, u_eObj, u_gT, u_sAsg, u_sAt, u_tYesV, u_eLc, u_eMt, u_sRaise1, u_iEnumV, u_iZipV, u_eKd, u_eIsE, u_eFE, x1, e, tru])
  exact ⟨s2, i2, e⟩
theorem p_sameT (ws : List (Option Int)) (hn : ws.length ≤ 1000) : F__law_same [.tup (ws.map fun o => match o with | none => .non | some i => .int i), .tup (ws.map fun o => match o with | none => .non | some i => .int i)] = .ok (.bl true) [.tup (ws.map fun o => match o with | none => .non | some i => .int i), .tup (ws.map fun o => match o with | none => .non | some i => .int i)] := by
  obtain ⟨s2, i2, e⟩ := same_loop ws _ (.inr rfl)
  have h1 : ws.length ≤ 100000 := by omega
  unfold F__law_same W__law_same
  simp [u_sSeq, u_sE, u_sSet, u_sRet, u_sRetN, u_sIf, u_sSub, u_sNx, u_sBk, u_sCt, u_eN, u_eC, u_eBin, u_eUn, u_eFn, u_eNot, u_eAnd, u_eOr, u_eIf, u_eTup, u_eLst, u_aCons, u_aNil, u_tB, u_tE, u_tNot, u_tAnd, u_tOr, keep, take, takes, hv, PV.toIo, PV.reFl, ofO, ofB, ofL, blOf, oIx, oAdd, oSub, oMul, oMod, oDiv, oPow, oI, oB, oGe, oLt, oLe, oGt, oInt, exitF, exit1, u_eCall, okArgs, back, isSl, runF, lim, nth, oLen, oAbs, u_eMu, muEnd, uAppend, uPop1, uInsert, u_eRg1, oRg, u_sFor, u_iRg1, u_iRg2, u_iSeq, ofX, seqOf, u_eCh, u_eSl, u_eMeth, u_eProp, u_eMake, u_eObj, u_gT, u_sAsg, u_sAt, u_tYesV, u_eLc, u_eMt, u_sRaise1, u_iEnumV, u_iZipV, u_eKd, u_eIsE, u_eFE, oIsi, tyN, tru, h1, e]
theorem p_sameL (ws : List (Option Int)) (hn : ws.length ≤ 1000) : F__law_same [.tup (ws.map fun o => match o with | none => .non | some i => .int i), .lst .ow (ws.map fun o => match o with | none => .non | some i => .int i)] = .ok (.bl true) [.tup (ws.map fun o => match o with | none => .non | some i => .int i), .lst .ow (ws.map fun o => match o with | none => .non | some i => .int i)] := by
  obtain ⟨s2, i2, e⟩ := same_loop ws _ (.inl rfl)
  have h1 : ws.length ≤ 100000 := by omega
  unfold F__law_same W__law_same
  simp [u_sSeq, u_sE, u_sSet, u_sRet, u_sRetN, u_sIf, u_sSub, u_sNx, u_sBk, u_sCt, u_eN, u_eC, u_eBin, u_eUn, u_eFn, u_eNot, u_eAnd, u_eOr, u_eIf, u_eTup, u_eLst, u_aCons, u_aNil, u_tB, u_tE, u_tNot, u_tAnd, u_tOr, keep, take, takes, hv, PV.toIo, PV.reFl, ofO, ofB, ofL, blOf, oIx, oAdd, oSub, oMul, oMod, oDiv, oPow, oI, oB, oGe, oLt, oLe, oGt, oInt, exitF, exit1, u_eCall, okArgs, back, isSl, runF, lim, nth, oLen, oAbs, u_eMu, muEnd, uAppend, uPop1, uInsert, u_eRg1, oRg, u_sFor, u_iRg1, u_iRg2, u_iSeq, ofX, seqOf, u_eCh, u_eSl, u_eMeth, u_eProp, u_eMake, u_eObj, u_gT, u_sAsg, u_sAt, u_tYesV, u_eLc, u_eMt, u_sRaise1, u_iEnumV, u_iZipV, u_eKd, u_eIsE, u_eFE, oIsi, tyN, tru, h1, e]
theorem p_unlike (ps : List (Option Nat)) (i : Nat) (xs ys : List Int) (ac : Acy ps) (hn : ps.length ≤ 900) (hi : i < ps.length) (h1 : xs.length = ps.length) (h2 : ys.length = ps.length) :
    F__law_unlike [.lst .fz (ps.map pP), .int (i : Int), recV xs, recV ys] = .ok (pP (fd xs ys (path ps i))) [.lst .fz (ps.map pP), .int (i : Int), recV xs, recV ys] := by
  have e := p_path ps i ac (by omega) hi
  have go : ∀ (js : List Nat) (s3 : PV), s3.isIo = false → (∀ j ∈ js, j < ps.length) → ∃ s3', (fd xs ys js = none ∧ loop (gN 4) B__law_unlike_1 (js.map nP) [.lst .fz (ps.map pP), .int (i : Int), recV xs, recV ys, s3] = .ok .nx [.lst .fz (ps.map pP), .int (i : Int), recV xs, recV ys, s3']) ∨ (∃ j, fd xs ys js = some j ∧ loop (gN 4) B__law_unlike_1 (js.map nP) [.lst .fz (ps.map pP), .int (i : Int), recV xs, recV ys, s3] = .ok (.rt (.int (j : Int))) [.lst .fz (ps.map pP), .int (i : Int), recV xs, recV ys, s3']) := by
    intro js
    induction js with
    | nil => intro s3 _ _; exact ⟨s3, .inl ⟨rfl, rfl⟩⟩
    | cons j js ih =>
      intro s3 h3 hm
      have hj := hm j List.mem_cons_self
      obtain ⟨v, hvv⟩ : ∃ v, xs[j]? = some v := ⟨_, List.getElem?_eq_getElem (by omega)⟩
      obtain ⟨u, hu⟩ : ∃ v, ys[j]? = some v := ⟨_, List.getElem?_eq_getElem (by omega)⟩
      have x1 : L2.atI (xs.map PV.int) (j : Int) = some (PV.int v) := atI_n (by rw [List.getElem?_map, hvv]; rfl)
      have x2 : L2.atI (ys.map PV.int) (j : Int) = some (PV.int u) := atI_n (by rw [List.getElem?_map, hu]; rfl)
      have x3 : xs.getD j 0 = v := by simp [hvv]
      have x4 : ys.getD j 0 = u := by simp [hu]
      have tg : gN 4 (.int (j : Int)) [.lst .fz (ps.map pP), .int (i : Int), recV xs, recV ys, s3] = some [.lst .fz (ps.map pP), .int (i : Int), recV xs, recV ys, .int (j : Int)] := gN_ok h3
      by_cases h0 : v = u
      · have hb : B__law_unlike_1 [.lst .fz (ps.map pP), .int (i : Int), recV xs, recV ys, .int (j : Int)] = .ok .nx [.lst .fz (ps.map pP), .int (i : Int), recV xs, recV ys, .int (j : Int)] := by
          unfold B__law_unlike_1
          simp [u_sSeq, u_sE, u_sSet, u_sRet, u_sRetN, u_sIf, u_sSub, u_sNx, u_sBk, u_sCt, u_eN, u_eC, u_eBin, u_eUn, u_eFn, u_eNot, u_eAnd, u_eOr, u_eIf, u_eTup, u_eLst, u_aCons, u_aNil, u_tB, u_tE, u_tNot, u_tAnd, u_tOr, keep, take, takes, hv, PV.toIo, PV.reFl, ofO, ofB, ofL, blOf, oIx, oAdd, oSub, oMul, oMod, oDiv, oPow, oI, oB, oGe, oLt, oLe, oGt, oInt, exitF, exit1, u_eCall, okArgs, back, isSl, runF, lim, nth, oLen, oAbs, u_eMu, muEnd, uAppend, uPop1, uInsert, u_eRg1, oRg, u_sFor, u_iRg1, u_iRg2, u_iSeq, ofX, seqOf, u_eCh, u_eSl, u_eMeth, u_eProp, u_eMake, u_eObj, u_gT, u_sAsg, u_sAt, u_tYesV, u_eLc, u_eMt, u_sRaise1, u_iEnumV, u_iZipV, u_eKd, u_eIsE, u_eFE, x1, x2, h0]
        obtain ⟨s3', q⟩ := ih (.int (j : Int)) rfl (fun x hx => hm x (List.mem_cons_of_mem _ hx))
        refine ⟨s3', ?_⟩
        simp only [List.map_cons, loop, tg, hb, fd, x3, x4, h0, ne_eq, not_true, if_false]
        exact q
      · have hb : B__law_unlike_1 [.lst .fz (ps.map pP), .int (i : Int), recV xs, recV ys, .int (j : Int)] = .ok (.rt (.int (j : Int))) [.lst .fz (ps.map pP), .int (i : Int), recV xs, recV ys, .emp] := by
          unfold B__law_unlike_1
          simp [u_sSeq, u_sE, u_sSet, u_sRet, u_sRetN, u_sIf, u_sSub, u_sNx, u_sBk, u_sCt, u_eN, u_eC, u_eBin, u_eUn, u_eFn, u_eNot, u_eAnd, u_eOr, u_eIf, u_eTup, u_eLst, u_aCons, u_aNil, u_tB, u_tE, u_tNot, u_tAnd, u_tOr, keep, take, takes, hv, PV.toIo, PV.reFl, ofO, ofB, ofL, blOf, oIx, oAdd, oSub, oMul, oMod, oDiv, oPow, oI, oB, oGe, oLt, oLe, oGt, oInt, exitF, exit1, u_eCall, okArgs, back, isSl, runF, lim, nth, oLen, oAbs, u_eMu, muEnd, uAppend, uPop1, uInsert, u_eRg1, oRg, u_sFor, u_iRg1, u_iRg2, u_iSeq, ofX, seqOf, u_eCh, u_eSl, u_eMeth, u_eProp, u_eMake, u_eObj, u_gT, u_sAsg, u_sAt, u_tYesV, u_eLc, u_eMt, u_sRaise1, u_iEnumV, u_iZipV, u_eKd, u_eIsE, u_eFE, x1, x2, h0]
        refine ⟨.emp, .inr ⟨j, ?_, ?_⟩⟩
        · simp only [fd, x3, x4, ne_eq, h0, not_false_iff, if_true]
        · simp only [List.map_cons, loop, tg, hb]
  obtain ⟨s3', q⟩ := go (path ps i) .emp rfl (path_lt ac hi)
  unfold F__law_unlike W__law_unlike
  rcases q with ⟨q1, q2⟩ | ⟨j, q1, q2⟩
  · rw [q1]
    simp [u_sSeq, u_sE, u_sSet, u_sRet, u_sRetN, u_sIf, u_sSub, u_sNx, u_sBk, u_sCt, u_eN, u_eC, u_eBin, u_eUn, u_eFn, u_eNot, u_eAnd, u_eOr, u_eIf, u_eTup, u_eLst, u_aCons, u_aNil, u_tB, u_tE, u_tNot, u_tAnd, u_tOr, keep, take, takes, hv, PV.toIo, PV.reFl, ofO, ofB, ofL, blOf, oIx, oAdd, oSub, oMul, oMod, oDiv, oPow, oI, oB, oGe, oLt, oLe, oGt, oInt, exitF, exit1, u_eCall, okArgs, back, isSl, runF, lim, nth, oLen, oAbs, u_eMu, muEnd, uAppend, uPop1, uInsert, u_eRg1, oRg, u_sFor, u_iRg1, u_iRg2, u_iSeq, ofX, seqOf, u_eCh, u_eSl, u_eMeth, u_eProp, u_eMake, u_eObj, u_gT, u_sAsg, u_sAt, u_tYesV, u_eLc, u_eMt, u_sRaise1, u_iEnumV, u_iZipV, u_eKd, u_eIsE, u_eFE, e, q2]
  · rw [q1]
    simp [u_sSeq, u_sE, u_sSet, u_sRet, u_sRetN, u_sIf, u_sSub, u_sNx, u_sBk, u_sCt, u_eN, u_eC, u_eBin, u_eUn, u_eFn, u_eNot, u_eAnd, u_eOr, u_eIf, u_eTup, u_eLst, u_aCons, u_aNil, u_tB, u_tE, u_tNot, u_tAnd, u_tOr, keep, take, takes, hv, PV.toIo, PV.reFl, ofO, ofB, ofL, blOf, oIx, oAdd, oSub, oMul, oMod, oDiv, oPow, oI, oB, oGe, oLt, oLe, oGt, oInt, exitF, exit1, u_eCall, okArgs, back, isSl, runF, lim, nth, oLen, oAbs, u_eMu, muEnd, uAppend, uPop1, uInsert, u_eRg1, oRg, u_sFor, u_iRg1, u_iRg2, u_iSeq, ofX, seqOf, u_eCh, u_eSl, u_eMeth, u_eProp, u_eMake, u_eObj, u_gT, u_sAsg, u_sAt, u_tYesV, u_eLc, u_eMt, u_sRaise1, u_iEnumV, u_iZipV, u_eKd, u_eIsE, u_eFE, e, q2]
theorem p_unl (ps : List (Option Nat)) (ks : List Str) (i : Nat) (xs ys : List Int) (ok : FOk ps ks) (hi : i < ps.length) (h1 : xs.length = ps.length) (h2 : ys.length = ps.length) :
    F_first_unlike [foV ps ks, .int (i : Int), recV xs, recV ys] = .ok (pP (fd xs ys (path ps i))) [foV ps ks, .int (i : Int), recV xs, recV ys] := by
  have most := ok.most
  have c1 := p_crec ps.length xs h1
  have c2 := p_crec ps.length ys h2
  have e := p_signs xs ys (by omega) (by omega)
  have e2 := p_first ps ks i (sgL xs ys) ok.acy (by omega) hi (by simp [sgL]; omega)
  rw [fm_fd h1 h2 (path_lt ok.acy hi)] at e2
  have c0 : F_check_place [.int ps.length, .int (i : Int)] = .ok .non [.int ps.length, .int (i : Int)] := by
    unfold F_check_place W_check_place
    have q1 : ¬ (i : Int) < 0 := by omega
    have q2 : ¬ (ps.length : Int) ≤ i := by omega
    simp [u_sSeq, u_sE, u_sSet, u_sRet, u_sRetN, u_sIf, u_sSub, u_sNx, u_sBk, u_sCt, u_eN, u_eC, u_eBin, u_eUn, u_eFn, u_eNot, u_eAnd, u_eOr, u_eIf, u_eTup, u_eLst, u_aCons, u_aNil, u_tB, u_tE, u_tNot, u_tAnd, u_tOr, keep, take, takes, hv, PV.toIo, PV.reFl, ofO, ofB, ofL, blOf, oIx, oAdd, oSub, oMul, oMod, oDiv, oPow, oI, oB, oGe, oLt, oLe, oGt, oInt, exitF, exit1, u_eCall, okArgs, back, isSl, runF, lim, nth, oLen, oAbs, u_eMu, muEnd, uAppend, uPop1, uInsert, u_eRg1, oRg, u_sFor, u_iRg1, u_iRg2, u_iSeq, ofX, seqOf, u_eCh, u_eSl, u_eMeth, u_eProp, u_eMake, u_eObj, u_gT, u_sAsg, u_sAt, u_tYesV, u_eLc, u_eMt, u_sRaise1, u_iEnumV, u_iZipV, u_eKd, u_eIsE, u_eFE, q1, q2]
  unfold F_first_unlike W_first_unlike
  simp [u_sSeq, u_sE, u_sSet, u_sRet, u_sRetN, u_sIf, u_sSub, u_sNx, u_sBk, u_sCt, u_eN, u_eC, u_eBin, u_eUn, u_eFn, u_eNot, u_eAnd, u_eOr, u_eIf, u_eTup, u_eLst, u_aCons, u_aNil, u_tB, u_tE, u_tNot, u_tAnd, u_tOr, keep, take, takes, hv, PV.toIo, PV.reFl, ofO, ofB, ofL, blOf, oIx, oAdd, oSub, oMul, oMod, oDiv, oPow, oI, oB, oGe, oLt, oLe, oGt, oInt, exitF, exit1, u_eCall, okArgs, back, isSl, runF, lim, nth, oLen, oAbs, u_eMu, muEnd, uAppend, uPop1, uInsert, u_eRg1, oRg, u_sFor, u_iRg1, u_iRg2, u_iSeq, ofX, seqOf, u_eCh, u_eSl, u_eMeth, u_eProp, u_eMake, u_eObj, u_gT, u_sAsg, u_sAt, u_tYesV, u_eLc, u_eMt, u_sRaise1, u_iEnumV, u_iZipV, u_eKd, u_eIsE, u_eFE, oAt, c0, c1, c2, e, e2]
end Law

set_option linter.all false
set_option maxRecDepth 100000
namespace Law
open VL PySem My
theorem p_lside (ps : List (Option Nat)) (ks : List Str) (i : Nat) (xs ys : List Int) (ok : FOk ps ks) (hi : i < ps.length) (h1 : xs.length = ps.length) (h2 : ys.length = ps.length) :
    F__law_side [.lst .fz (ps.map pP), .lst .fz (ks.map .str), .int (i : Int), recV xs, recV ys] = .ok (.int (if sideN ps ks xs ys i = true then 1 else 0)) [.lst .fz (ps.map pP), .lst .fz (ks.map .str), .int (i : Int), recV xs, recV ys] := by
  have most := ok.most
  have e := p_path ps i ok.acy (by omega) hi
  have go : ∀ (js : List Nat) (s3 : PV), s3.isIo = false → (∀ j ∈ js, j < ps.length) → ∃ s3', (fd xs ys js = none ∧ loop (gN 5) B__law_side_1 (js.map nP) [.lst .fz (ps.map pP), .lst .fz (ks.map .str), .int (i : Int), recV xs, recV ys, s3] = .ok .nx [.lst .fz (ps.map pP), .lst .fz (ks.map .str), .int (i : Int), recV xs, recV ys, s3']) ∨
      (∃ j, fd xs ys js = some j ∧ loop (gN 5) B__law_side_1 (js.map nP) [.lst .fz (ps.map pP), .lst .fz (ks.map .str), .int (i : Int), recV xs, recV ys, s3] = .ok (.rt (.int (if newerK (ks.getD j "") (xs.getD j 0) (ys.getD j 0) = true then 1 else 0))) [.lst .fz (ps.map pP), .lst .fz (ks.map .str), .int (i : Int), recV xs, recV ys, s3']) := by
    intro js
    induction js with
    | nil => intro s3 _ _; exact ⟨s3, .inl ⟨rfl, rfl⟩⟩
    | cons j js ih =>
      intro s3 h3 hm
      have hj := hm j List.mem_cons_self
      obtain ⟨v, hvv⟩ : ∃ v, xs[j]? = some v := ⟨_, List.getElem?_eq_getElem (by omega)⟩
      obtain ⟨u, hu⟩ : ∃ v, ys[j]? = some v := ⟨_, List.getElem?_eq_getElem (by omega)⟩
      obtain ⟨k, hkk⟩ : ∃ k, ks[j]? = some k := ⟨_, List.getElem?_eq_getElem (by rw [ok.k.len]; exact hj)⟩
      have w4 := ok.k.w k (List.mem_of_getElem? hkk)
      have x1 : L2.atI (xs.map PV.int) (j : Int) = some (PV.int v) := atI_n (by rw [List.getElem?_map, hvv]; rfl)
      have x2 : L2.atI (ys.map PV.int) (j : Int) = some (PV.int u) := atI_n (by rw [List.getElem?_map, hu]; rfl)
      have x5 : L2.atI (ks.map PV.str) (j : Int) = some (PV.str k) := atI_n (by rw [List.getElem?_map, hkk]; rfl)
      have x3 : xs.getD j 0 = v := by simp [hvv]
      have x4 : ys.getD j 0 = u := by simp [hu]
      have x6 : ks.getD j "" = k := by simp [hkk]
      have tg : gN 5 (.int (j : Int)) [.lst .fz (ps.map pP), .lst .fz (ks.map .str), .int (i : Int), recV xs, recV ys, s3] = some [.lst .fz (ps.map pP), .lst .fz (ks.map .str), .int (i : Int), recV xs, recV ys, .int (j : Int)] := gN_ok h3
      by_cases h0 : v = u
      · have hb : B__law_side_1 [.lst .fz (ps.map pP), .lst .fz (ks.map .str), .int (i : Int), recV xs, recV ys, .int (j : Int)] = .ok .nx [.lst .fz (ps.map pP), .lst .fz (ks.map .str), .int (i : Int), recV xs, recV ys, .int (j : Int)] := by
          unfold B__law_side_1
          simp [u_sSeq, u_sE, u_sSet, u_sRet, u_sRetN, u_sIf, u_sSub, u_sNx, u_sBk, u_sCt, u_eN, u_eC, u_eBin, u_eUn, u_eFn, u_eNot, u_eAnd, u_eOr, u_eIf, u_eTup, u_eLst, u_aCons, u_aNil, u_tB, u_tE, u_tNot, u_tAnd, u_tOr, keep, take, takes, hv, PV.toIo, PV.reFl, ofO, ofB, ofL, blOf, oIx, oAdd, oSub, oMul, oMod, oDiv, oPow, oI, oB, oGe, oLt, oLe, oGt, oInt, exitF, exit1, u_eCall, okArgs, back, isSl, runF, lim, nth, oLen, oAbs, u_eMu, muEnd, uAppend, uPop1, uInsert, u_eRg1, oRg, u_sFor, u_iRg1, u_iRg2, u_iSeq, ofX, seqOf, u_eCh, u_eSl, u_eMeth, u_eProp, u_eMake, u_eObj, u_gT, u_sAsg, u_sAt, u_tYesV, u_eLc, u_eMt, u_sRaise1, u_iEnumV, u_iZipV, u_eKd, u_eIsE, u_eFE, x1, x2, h0]
        obtain ⟨s3', q⟩ := ih (.int (j : Int)) rfl (fun x hx => hm x (List.mem_cons_of_mem _ hx))
        refine ⟨s3', ?_⟩
        simp only [List.map_cons, loop, tg, hb, fd, x3, x4, h0, ne_eq, not_true, if_false]
        exact q
      · have hb : B__law_side_1 [.lst .fz (ps.map pP), .lst .fz (ks.map .str), .int (i : Int), recV xs, recV ys, .int (j : Int)] = .ok (.rt (.int (if newerK k v u = true then 1 else 0))) [.lst .fz (ps.map pP), .lst .fz (ks.map .str), .int (i : Int), recV xs, recV ys, .int (j : Int)] := by
          unfold B__law_side_1 newerK
          by_cases hlt : u < v
          · rcases w4 with rfl | rfl | rfl | rfl <;> simp [u_sSeq, u_sE, u_sSet, u_sRet, u_sRetN, u_sIf, u_sSub, u_sNx, u_sBk, u_sCt, u_eN, u_eC, u_eBin, u_eUn, u_eFn, u_eNot, u_eAnd, u_eOr, u_eIf, u_eTup, u_eLst, u_aCons, u_aNil, u_tB, u_tE, u_tNot, u_tAnd, u_tOr, keep, take, takes, hv, PV.toIo, PV.reFl, ofO, ofB, ofL, blOf, oIx, oAdd, oSub, oMul, oMod, oDiv, oPow, oI, oB, oGe, oLt, oLe, oGt, oInt, exitF, exit1, u_eCall, okArgs, back, isSl, runF, lim, nth, oLen, oAbs, u_eMu, muEnd, uAppend, uPop1, uInsert, u_eRg1, oRg, u_sFor, u_iRg1, u_iRg2, u_iSeq, ofX, seqOf, u_eCh, u_eSl, u_eMeth, u_eProp, u_eMake, u_eObj, u_gT, u_sAsg, u_sAt, u_tYesV, u_eLc, u_eMt, u_sRaise1, u_iEnumV, u_iZipV, u_eKd, u_eIsE, u_eFE, x1, x2, x5, h0, oEq_str, hlt, oEq_bl]
          · rcases w4 with rfl | rfl | rfl | rfl <;> simp [u_sSeq, u_sE, u_sSet, u_sRet, u_sRetN, u_sIf, u_sSub, u_sNx, u_sBk, u_sCt, u_eN, u_eC, u_eBin, u_eUn, u_eFn, u_eNot, u_eAnd, u_eOr, u_eIf, u_eTup, u_eLst, u_aCons, u_aNil, u_tB, u_tE, u_tNot, u_tAnd, u_tOr, keep, take, takes, hv, PV.toIo, PV.reFl, ofO, ofB, ofL, blOf, oIx, oAdd, oSub, oMul, oMod, oDiv, oPow, oI, oB, oGe, oLt, oLe, oGt, oInt, exitF, exit1, u_eCall, okArgs, back, isSl, runF, lim, nth, oLen, oAbs, u_eMu, muEnd, uAppend, uPop1, uInsert, u_eRg1, oRg, u_sFor, u_iRg1, u_iRg2, u_iSeq, ofX, seqOf, u_eCh, u_eSl, u_eMeth, u_eProp, u_eMake, u_eObj, u_gT, u_sAsg, u_sAt, u_tYesV, u_eLc, u_eMt, u_sRaise1, u_iEnumV, u_iZipV, u_eKd, u_eIsE, u_eFE, x1, x2, x5, h0, oEq_str, hlt, oEq_bl]
        refine ⟨.int (j : Int), .inr ⟨j, ?_, ?_⟩⟩
        · simp only [fd, x3, x4, ne_eq, h0, not_false_iff, if_true]
        · simp only [List.map_cons, loop, tg, hb, x3, x4, x6]
  obtain ⟨s3', q⟩ := go (path ps i) .emp rfl (path_lt ok.acy hi)
  unfold F__law_side W__law_side
  rcases q with ⟨q1, q2⟩ | ⟨j, q1, q2⟩
  · have s : sideN ps ks xs ys i = false := by unfold sideN; rw [q1]
    simp [u_sSeq, u_sE, u_sSet, u_sRet, u_sRetN, u_sIf, u_sSub, u_sNx, u_sBk, u_sCt, u_eN, u_eC, u_eBin, u_eUn, u_eFn, u_eNot, u_eAnd, u_eOr, u_eIf, u_eTup, u_eLst, u_aCons, u_aNil, u_tB, u_tE, u_tNot, u_tAnd, u_tOr, keep, take, takes, hv, PV.toIo, PV.reFl, ofO, ofB, ofL, blOf, oIx, oAdd, oSub, oMul, oMod, oDiv, oPow, oI, oB, oGe, oLt, oLe, oGt, oInt, exitF, exit1, u_eCall, okArgs, back, isSl, runF, lim, nth, oLen, oAbs, u_eMu, muEnd, uAppend, uPop1, uInsert, u_eRg1, oRg, u_sFor, u_iRg1, u_iRg2, u_iSeq, ofX, seqOf, u_eCh, u_eSl, u_eMeth, u_eProp, u_eMake, u_eObj, u_gT, u_sAsg, u_sAt, u_tYesV, u_eLc, u_eMt, u_sRaise1, u_iEnumV, u_iZipV, u_eKd, u_eIsE, u_eFE, e, q2, s]
  · have s : sideN ps ks xs ys i = newerK (ks.getD j "") (xs.getD j 0) (ys.getD j 0) := by unfold sideN; rw [q1]
    rw [s]
    simp [u_sSeq, u_sE, u_sSet, u_sRet, u_sRetN, u_sIf, u_sSub, u_sNx, u_sBk, u_sCt, u_eN, u_eC, u_eBin, u_eUn, u_eFn, u_eNot, u_eAnd, u_eOr, u_eIf, u_eTup, u_eLst, u_aCons, u_aNil, u_tB, u_tE, u_tNot, u_tAnd, u_tOr, keep, take, takes, hv, PV.toIo, PV.reFl, ofO, ofB, ofL, blOf, oIx, oAdd, oSub, oMul, oMod, oDiv, oPow, oI, oB, oGe, oLt, oLe, oGt, oInt, exitF, exit1, u_eCall, okArgs, back, isSl, runF, lim, nth, oLen, oAbs, u_eMu, muEnd, uAppend, uPop1, uInsert, u_eRg1, oRg, u_sFor, u_iRg1, u_iRg2, u_iSeq, ofX, seqOf, u_eCh, u_eSl, u_eMeth, u_eProp, u_eMake, u_eObj, u_gT, u_sAsg, u_sAt, u_tYesV, u_eLc, u_eMt, u_sRaise1, u_iEnumV, u_iZipV, u_eKd, u_eIsE, u_eFE, e, q2]
theorem p_merge (ps : List (Option Nat)) (ks : List Str) (xs ys : List Int) (ok : FOk ps ks) (h1 : xs.length = ps.length) (h2 : ys.length = ps.length) :
    F__law_merge [.lst .fz (ps.map pP), .lst .fz (ks.map .str), recV xs, recV ys] = .ok (recV (mg ps ks xs ys)) [.lst .fz (ps.map pP), .lst .fz (ks.map .str), recV xs, recV ys] := by
  have most := ok.most
  obtain ⟨zs, ρ', e3, e1, rfl⟩ := lcl_rg (t := gN 5) (tt := tYesV) (fe := B__law_merge_1) (own := [5]) (acc := []) (a := 0) (b := ps.length) (ρ := [.lst .fz (ps.map pP), .lst .fz (ks.map .str), recV xs, recV ys, .lst .ow [recV xs, recV ys], .emp])
    (fun i acc ρ => acc = ((mg ps ks xs ys).take i.toNat).map .int ∧ ρ = [.lst .fz (ps.map pP), .lst .fz (ks.map .str), recV xs, recV ys, .lst .ow [recV xs, recV ys], .emp]) (by omega) ⟨by simp, rfl⟩ (by
    rintro i acc ρ i0 i1 ⟨rfl, rfl⟩
    obtain ⟨m, rfl⟩ : ∃ m : Nat, i = m := ⟨i.toNat, by omega⟩
    have hm : m < ps.length := by omega
    have e := p_lside ps ks m xs ys ok hm h1 h2
    obtain ⟨x, hx⟩ : ∃ x, xs[m]? = some x := ⟨_, List.getElem?_eq_getElem (by omega)⟩
    obtain ⟨y, hy⟩ : ∃ y, ys[m]? = some y := ⟨_, List.getElem?_eq_getElem (by omega)⟩
    have x1 : L2.atI (xs.map PV.int) (m : Int) = some (PV.int x) := atI_n (by rw [List.getElem?_map, hx]; rfl)
    have x2 : L2.atI (ys.map PV.int) (m : Int) = some (PV.int y) := atI_n (by rw [List.getElem?_map, hy]; rfl)
    have y1 : L2.atI [recV xs, recV ys] 0 = some (recV xs) := rfl
    have y2 : L2.atI [recV xs, recV ys] 1 = some (recV ys) := rfl
    have hb : B__law_merge_1 [.lst .fz (ps.map pP), .lst .fz (ks.map .str), recV xs, recV ys, .lst .ow [recV xs, recV ys], .int m] = .ok (.tm (.int (if sideN ps ks xs ys m = true then y else x))) [.lst .fz (ps.map pP), .lst .fz (ks.map .str), recV xs, recV ys, .lst .ow [recV xs, recV ys], .int m] := by
      unfold B__law_merge_1
      cases s : sideN ps ks xs ys m with
      | false =>
        rw [s] at e
        simp only [Bool.false_eq_true, if_false] at e
        simp [u_sSeq, u_sE, u_sSet, u_sRet, u_sRetN, u_sIf, u_sSub, u_sNx, u_sBk, u_sCt, u_eN, u_eC, u_eBin, u_eUn, u_eFn, u_eNot, u_eAnd, u_eOr, u_eIf, u_eTup, u_eLst, u_aCons, u_aNil, u_tB, u_tE, u_tNot, u_tAnd, u_tOr, keep, take, takes, hv, PV.toIo, PV.reFl, ofO, ofB, ofL, blOf, oIx, oAdd, oSub, oMul, oMod, oDiv, oPow, oI, oB, oGe, oLt, oLe, oGt, oInt, exitF, exit1, u_eCall, okArgs, back, isSl, runF, lim, nth, oLen, oAbs, u_eMu, muEnd, uAppend, uPop1, uInsert, u_eRg1, oRg, u_sFor, u_iRg1, u_iRg2, u_iSeq, ofX, seqOf, u_eCh, u_eSl, u_eMeth, u_eProp, u_eMake, u_eObj, u_gT, u_sAsg, u_sAt, u_tYesV, u_eLc, u_eMt, u_sRaise1, u_iEnumV, u_iZipV, u_eKd, u_eIsE, u_eFE, e, y1, x1]
      | true =>
        rw [s] at e
        simp only [if_true] at e
        simp [u_sSeq, u_sE, u_sSet, u_sRet, u_sRetN, u_sIf, u_sSub, u_sNx, u_sBk, u_sCt, u_eN, u_eC, u_eBin, u_eUn, u_eFn, u_eNot, u_eAnd, u_eOr, u_eIf, u_eTup, u_eLst, u_aCons, u_aNil, u_tB, u_tE, u_tNot, u_tAnd, u_tOr, keep, take, takes, hv, PV.toIo, PV.reFl, ofO, ofB, ofL, blOf, oIx, oAdd, oSub, oMul, oMod, oDiv, oPow, oI, oB, oGe, oLt, oLe, oGt, oInt, exitF, exit1, u_eCall, okArgs, back, isSl, runF, lim, nth, oLen, oAbs, u_eMu, muEnd, uAppend, uPop1, uInsert, u_eRg1, oRg, u_sFor, u_iRg1, u_iRg2, u_iSeq, ofX, seqOf, u_eCh, u_eSl, u_eMeth, u_eProp, u_eMake, u_eObj, u_gT, u_sAsg, u_sAt, u_tYesV, u_eLc, u_eMt, u_sRaise1, u_iEnumV, u_iZipV, u_eKd, u_eIsE, u_eFE, e, y2, x2]
    refine ⟨_, _, _, _, _, _, gN_ok rfl, rfl, hb, rfl, by simp [lim]; omega, ?_, rfl⟩
    have g : (mg ps ks xs ys)[m]? = some (if sideN ps ks xs ys m = true then y else x) := by simp [mg, hm, hx, hy]
    rw [show ((m : Int) + 1).toNat = m + 1 from by omega, show (m : Int).toNat = m from by omega, List.take_add_one, g]
    simp)
  have e2 : zs = (mg ps ks xs ys).map .int := by
    rw [e1, List.take_of_length_le]
    simp [mg]
  have q1 : ps.length ≤ 100000 := by omega
  unfold F__law_merge W__law_merge
  simp [u_sSeq, u_sE, u_sSet, u_sRet, u_sRetN, u_sIf, u_sSub, u_sNx, u_sBk, u_sCt, u_eN, u_eC, u_eBin, u_eUn, u_eFn, u_eNot, u_eAnd, u_eOr, u_eIf, u_eTup, u_eLst, u_aCons, u_aNil, u_tB, u_tE, u_tNot, u_tAnd, u_tOr, keep, take, takes, hv, PV.toIo, PV.reFl, ofO, ofB, ofL, blOf, oIx, oAdd, oSub, oMul, oMod, oDiv, oPow, oI, oB, oGe, oLt, oLe, oGt, oInt, exitF, exit1, u_eCall, okArgs, back, isSl, runF, lim, nth, oLen, oAbs, u_eMu, muEnd, uAppend, uPop1, uInsert, u_eRg1, oRg, u_sFor, u_iRg1, u_iRg2, u_iSeq, ofX, seqOf, u_eCh, u_eSl, u_eMeth, u_eProp, u_eMake, u_eObj, u_gT, u_sAsg, u_sAt, u_tYesV, u_eLc, u_eMt, u_sRaise1, u_iEnumV, u_iZipV, u_eKd, u_eIsE, u_eFE, q1, wipeQ, restP, e3, oTuple, e2]
theorem eqv_ints : ∀ (xs : List Int), PyData.eqvAll (xs.map .int) (xs.map .int) = true
  | [] => rfl
  | x :: xs => by simp [PyData.eqvAll, PyData.eqv, eqv_ints xs]
theorem oEq_rec (xs : List Int) (h : xs.length ≤ 1000) : oEq false (recV xs) (recV xs) = some (.bl true) := by
  have hm : (xs.map PV.int).map dat = xs.map PyData.int := by simp
  have hl : laid (recV xs) = true := by
    unfold laid
    rw [dat_tup, hm]
    have c : ∀ d ∈ xs.map PyData.int, d.canLay0 = true := by
      intro d hd
      obtain ⟨i, _, rfl⟩ := List.mem_map.mp hd
      rfl
    have dp : PyData.depthAll (xs.map PyData.int) ≤ 1 := depAll.mpr (by
      intro d hd
      obtain ⟨i, _, rfl⟩ := List.mem_map.mp hd
      simp [PyData.depth])
    simp only [SeqAt.shaped, Bool.and_eq_true, decide_eq_true_eq]
    exact ⟨by simp only [PyData.canLay0]; exact canAll.mpr c, by simp only [PyData.depth]; omega⟩
  unfold oEq
  rw [hl]
  rw [dat_tup, hm]
  simp [PyData.eqv, eqv_ints]
theorem p_answers (ps : List (Option Nat)) (ks : List Str) (xs ys : List Int) (ok : FOk ps ks) (h1 : xs.length = ps.length) (h2 : ys.length = ps.length) :
    F__law_answers [foV ps ks, .lst .fz (ps.map pP), .lst .fz (ks.map .str), recV xs, recV ys] = .ok (.bl true) [foV ps ks, .lst .fz (ps.map pP), .lst .fz (ks.map .str), recV xs, recV ys] := by
  have most := ok.most
  obtain ⟨ρ', e, s5, s6, i5, i6, rfl⟩ := loop_rg (t := gN 5) (f := B__law_answers_1) (a := 0) (b := ps.length) (ρ := [foV ps ks, .lst .fz (ps.map pP), .lst .fz (ks.map .str), recV xs, recV ys, .emp, .emp, .emp])
    (fun i ρ => ∃ s5 s6 : PV, s5.isIo = false ∧ s6.isIo = false ∧ ρ = [foV ps ks, .lst .fz (ps.map pP), .lst .fz (ks.map .str), recV xs, recV ys, s5, s6, .emp]) (by omega) ⟨_, _, rfl, rfl, rfl⟩ (by
    rintro i ρ i0 i1 ⟨s5, s6, i5, i6, rfl⟩
    obtain ⟨m, rfl⟩ : ∃ m : Nat, i = m := ⟨i.toNat, by omega⟩
    have hm : m < ps.length := by omega
    have e := p_unl ps ks m xs ys ok hm h1 h2
    have e2 := p_unlike ps m xs ys ok.acy (by omega) hm h1 h2
    refine ⟨_, [foV ps ks, .lst .fz (ps.map pP), .lst .fz (ks.map .str), recV xs, recV ys, .int m, pP (fd xs ys (path ps m)), .emp], gN_ok i5, ?_, _, _, rfl, pP_io _, rfl⟩
    unfold B__law_answers_1
    cases q : fd xs ys (path ps m) with
    | none =>
      rw [q] at e e2
      have e3 := p_sameL [none] (by decide)
      simp only [List.map_cons, List.map_nil] at e3
      simp [u_sSeq, u_sE, u_sSet, u_sRet, u_sRetN, u_sIf, u_sSub, u_sNx, u_sBk, u_sCt, u_eN, u_eC, u_eBin, u_eUn, u_eFn, u_eNot, u_eAnd, u_eOr, u_eIf, u_eTup, u_eLst, u_aCons, u_aNil, u_tB, u_tE, u_tNot, u_tAnd, u_tOr, keep, take, takes, hv, PV.toIo, PV.reFl, ofO, ofB, ofL, blOf, oIx, oAdd, oSub, oMul, oMod, oDiv, oPow, oI, oB, oGe, oLt, oLe, oGt, oInt, exitF, exit1, u_eCall, okArgs, back, isSl, runF, lim, nth, oLen, oAbs, u_eMu, muEnd, uAppend, uPop1, uInsert, u_eRg1, oRg, u_sFor, u_iRg1, u_iRg2, u_iSeq, ofX, seqOf, u_eCh, u_eSl, u_eMeth, u_eProp, u_eMake, u_eObj, u_gT, u_sAsg, u_sAt, u_tYesV, u_eLc, u_eMt, u_sRaise1, u_iEnumV, u_iZipV, u_eKd, u_eIsE, u_eFE, e, e2, e3, i6, tru]
    | some j =>
      rw [q] at e e2
      have e3 := p_sameL [some (j : Int)] (by simp)
      simp only [List.map_cons, List.map_nil] at e3
      simp [u_sSeq, u_sE, u_sSet, u_sRet, u_sRetN, u_sIf, u_sSub, u_sNx, u_sBk, u_sCt, u_eN, u_eC, u_eBin, u_eUn, u_eFn, u_eNot, u_eAnd, u_eOr, u_eIf, u_eTup, u_eLst, u_aCons, u_aNil, u_tB, u_tE, u_tNot, u_tAnd, u_tOr, keep, take, takes, hv, PV.toIo, PV.reFl, ofO, ofB, ofL, blOf, oIx, oAdd, oSub, oMul, oMod, oDiv, oPow, oI, oB, oGe, oLt, oLe, oGt, oInt, exitF, exit1, u_eCall, okArgs, back, isSl, runF, lim, nth, oLen, oAbs, u_eMu, muEnd, uAppend, uPop1, uInsert, u_eRg1, oRg, u_sFor, u_iRg1, u_iRg2, u_iSeq, ofX, seqOf, u_eCh, u_eSl, u_eMeth, u_eProp, u_eMake, u_eObj, u_gT, u_sAsg, u_sAt, u_tYesV, u_eLc, u_eMt, u_sRaise1, u_iEnumV, u_iZipV, u_eKd, u_eIsE, u_eFE, e, e2, e3, i6, tru])
  have c := p_call ps ks xs ys ok h1 h2
  have c2 := p_isrec (mg ps ks xs ys) ps.length (by simp [mg])
  have c3 := p_merge ps ks xs ys ok h1 h2
  have c4 := oEq_rec (mg ps ks xs ys) (by simp [mg]; omega)
  have q1 : ps.length ≤ 100000 := by omega
  unfold F__law_answers W__law_answers
  simp [u_sSeq, u_sE, u_sSet, u_sRet, u_sRetN, u_sIf, u_sSub, u_sNx, u_sBk, u_sCt, u_eN, u_eC, u_eBin, u_eUn, u_eFn, u_eNot, u_eAnd, u_eOr, u_eIf, u_eTup, u_eLst, u_aCons, u_aNil, u_tB, u_tE, u_tNot, u_tAnd, u_tOr, keep, take, takes, hv, PV.toIo, PV.reFl, ofO, ofB, ofL, blOf, oIx, oAdd, oSub, oMul, oMod, oDiv, oPow, oI, oB, oGe, oLt, oLe, oGt, oInt, exitF, exit1, u_eCall, okArgs, back, isSl, runF, lim, nth, oLen, oAbs, u_eMu, muEnd, uAppend, uPop1, uInsert, u_eRg1, oRg, u_sFor, u_iRg1, u_iRg2, u_iSeq, ofX, seqOf, u_eCh, u_eSl, u_eMeth, u_eProp, u_eMake, u_eObj, u_gT, u_sAsg, u_sAt, u_tYesV, u_eLc, u_eMt, u_sRaise1, u_iEnumV, u_iZipV, u_eKd, u_eIsE, u_eFE, q1, e, callH, isObj, c, c2, c3, c4, tru]
end Law

set_option linter.all false
set_option maxRecDepth 100000
namespace Law
open VL PySem My
theorem p_value (c k s : Int) (hs : 0 < s) (hs2 : s < 1073741824) (o : Fl) (ho : o ≠ .fz) : ∃ v c' k', F__law_value [.lst o [.int c, .int k], .int s] = .ok (.int v) [.lst .ow [.int c', .int k'], .int s] := by
  obtain ⟨p, c1, e1, p0, p1⟩ := p_take c k 8 .io (by decide) (by omega) (by omega)
  obtain ⟨a, c2, e2, a0, a1⟩ := p_take c1 (k + 1) 1000000000 .io (by decide) (by omega) (by omega)
  obtain ⟨b, c3, e3, b0, b1⟩ := p_take c2 (k + 1 + 1) 1000000000 .io (by decide) (by omega) (by omega)
  obtain ⟨d, c4, e4, d0, d1⟩ := p_take c1 (k + 1) s .io (by decide) hs hs2
  have cm : cMul a 1000000000000000000000000000000 = true := cm_l (by omega) (by omega)
  unfold F__law_value W__law_value
  cases o with
  | fz => exact absurd rfl ho
  | _ =>
    by_cases h0 : p = 0
    · refine ⟨a * 1000000000000000000000000000000 - b, c3, k + 1 + 1 + 1, ?_⟩
      simp [u_sSeq, u_sE, u_sSet, u_sRet, u_sRetN, u_sIf, u_sSub, u_sNx, u_sBk, u_sCt, u_eN, u_eC, u_eBin, u_eUn, u_eFn, u_eNot, u_eAnd, u_eOr, u_eIf, u_eTup, u_eLst, u_aCons, u_aNil, u_tB, u_tE, u_tNot, u_tAnd, u_tOr, keep, take, takes, hv, PV.toIo, PV.reFl, ofO, ofB, ofL, blOf, oIx, oAdd, oSub, oMul, oMod, oDiv, oPow, oI, oB, oGe, oLt, oLe, oGt, oInt, exitF, exit1, u_eCall, okArgs, back, isSl, runF, lim, nth, oLen, oAbs, u_eMu, muEnd, uAppend, uPop1, uInsert, u_eRg1, oRg, u_sFor, u_iRg1, u_iRg2, u_iSeq, ofX, seqOf, u_eCh, u_eSl, u_eMeth, u_eProp, u_eMake, u_eObj, u_gT, u_sAsg, u_sAt, u_tYesV, u_eLc, u_eMt, u_sRaise1, u_iEnumV, u_iZipV, u_eKd, u_eIsE, u_eFE, e1, e2, e3, h0, cm]
    · by_cases h1 : p = 1
      · refine ⟨0 - d, c4, k + 1 + 1, ?_⟩
        simp [u_sSeq, u_sE, u_sSet, u_sRet, u_sRetN, u_sIf, u_sSub, u_sNx, u_sBk, u_sCt, u_eN, u_eC, u_eBin, u_eUn, u_eFn, u_eNot, u_eAnd, u_eOr, u_eIf, u_eTup, u_eLst, u_aCons, u_aNil, u_tB, u_tE, u_tNot, u_tAnd, u_tOr, keep, take, takes, hv, PV.toIo, PV.reFl, ofO, ofB, ofL, blOf, oIx, oAdd, oSub, oMul, oMod, oDiv, oPow, oI, oB, oGe, oLt, oLe, oGt, oInt, exitF, exit1, u_eCall, okArgs, back, isSl, runF, lim, nth, oLen, oAbs, u_eMu, muEnd, uAppend, uPop1, uInsert, u_eRg1, oRg, u_sFor, u_iRg1, u_iRg2, u_iSeq, ofX, seqOf, u_eCh, u_eSl, u_eMeth, u_eProp, u_eMake, u_eObj, u_gT, u_sAsg, u_sAt, u_tYesV, u_eLc, u_eMt, u_sRaise1, u_iEnumV, u_iZipV, u_eKd, u_eIsE, u_eFE, e1, e4, h0, h1]
      · refine ⟨d, c4, k + 1 + 1, ?_⟩
        simp [u_sSeq, u_sE, u_sSet, u_sRet, u_sRetN, u_sIf, u_sSub, u_sNx, u_sBk, u_sCt, u_eN, u_eC, u_eBin, u_eUn, u_eFn, u_eNot, u_eAnd, u_eOr, u_eIf, u_eTup, u_eLst, u_aCons, u_aNil, u_tB, u_tE, u_tNot, u_tAnd, u_tOr, keep, take, takes, hv, PV.toIo, PV.reFl, ofO, ofB, ofL, blOf, oIx, oAdd, oSub, oMul, oMod, oDiv, oPow, oI, oB, oGe, oLt, oLe, oGt, oInt, exitF, exit1, u_eCall, okArgs, back, isSl, runF, lim, nth, oLen, oAbs, u_eMu, muEnd, uAppend, uPop1, uInsert, u_eRg1, oRg, u_sFor, u_iRg1, u_iRg2, u_iSeq, ofX, seqOf, u_eCh, u_eSl, u_eMeth, u_eProp, u_eMake, u_eObj, u_gT, u_sAsg, u_sAt, u_tYesV, u_eLc, u_eMt, u_sRaise1, u_iEnumV, u_iZipV, u_eKd, u_eIsE, u_eFE, e1, e4, h0, h1]
theorem p_record (c k s : Int) (n : Nat) (hn : n ≤ 1000) (hs : 0 < s) (hs2 : s < 1073741824) (o : Fl) (ho : o ≠ .fz) : ∃ (xs : List Int) (c' k' : Int), F__law_record [.lst o [.int c, .int k], .int n, .int s] = .ok (recV xs) [.lst .ow [.int c', .int k'], .int n, .int s] ∧ xs.length = n := by
  obtain ⟨zs, ρ', e3, xs, c', k', rfl, hl, rfl⟩ := lcl_rg (t := gN 3) (tt := tYesV) (fe := B__law_record_1) (own := [3]) (acc := []) (a := 0) (b := n) (ρ := [.lst .io [.int c, .int k], .int n, .int s, .emp])
    (fun i acc ρ => ∃ (xs : List Int) (c k : Int), acc = xs.map .int ∧ (xs.length : Int) = i ∧ ρ = [.lst .io [.int c, .int k], .int n, .int s, .emp]) (by omega) ⟨[], c, k, rfl, rfl, rfl⟩ (by
    rintro i acc ρ i0 i1 ⟨xs, c, k, rfl, hl, rfl⟩
    obtain ⟨v, c', k', e⟩ := p_value c k s hs hs2 .io (by decide)
    have hb : B__law_record_1 [.lst .io [.int c, .int k], .int n, .int s, .int i] = .ok (.tm (.int v)) [.lst .io [.int c', .int k'], .int n, .int s, .int i] := by
      unfold B__law_record_1
      simp [u_sSeq, u_sE, u_sSet, u_sRet, u_sRetN, u_sIf, u_sSub, u_sNx, u_sBk, u_sCt, u_eN, u_eC, u_eBin, u_eUn, u_eFn, u_eNot, u_eAnd, u_eOr, u_eIf, u_eTup, u_eLst, u_aCons, u_aNil, u_tB, u_tE, u_tNot, u_tAnd, u_tOr, keep, take, takes, hv, PV.toIo, PV.reFl, ofO, ofB, ofL, blOf, oIx, oAdd, oSub, oMul, oMod, oDiv, oPow, oI, oB, oGe, oLt, oLe, oGt, oInt, exitF, exit1, u_eCall, okArgs, back, isSl, runF, lim, nth, oLen, oAbs, u_eMu, muEnd, uAppend, uPop1, uInsert, u_eRg1, oRg, u_sFor, u_iRg1, u_iRg2, u_iSeq, ofX, seqOf, u_eCh, u_eSl, u_eMeth, u_eProp, u_eMake, u_eObj, u_gT, u_sAsg, u_sAt, u_tYesV, u_eLc, u_eMt, u_sRaise1, u_iEnumV, u_iZipV, u_eKd, u_eIsE, u_eFE, e]
    exact ⟨_, _, _, _, _, _, gN_ok rfl, rfl, hb, rfl, by simp [lim]; omega, xs ++ [v], c', k', by simp, by simp; omega, rfl⟩)
  refine ⟨xs, c', k', ?_, by omega⟩
  have q1 : n ≤ 100000 := by omega
  unfold F__law_record W__law_record
  cases o with
  | fz => exact absurd rfl ho
  | _ => simp [u_sSeq, u_sE, u_sSet, u_sRet, u_sRetN, u_sIf, u_sSub, u_sNx, u_sBk, u_sCt, u_eN, u_eC, u_eBin, u_eUn, u_eFn, u_eNot, u_eAnd, u_eOr, u_eIf, u_eTup, u_eLst, u_aCons, u_aNil, u_tB, u_tE, u_tNot, u_tAnd, u_tOr, keep, take, takes, hv, PV.toIo, PV.reFl, ofO, ofB, ofL, blOf, oIx, oAdd, oSub, oMul, oMod, oDiv, oPow, oI, oB, oGe, oLt, oLe, oGt, oInt, exitF, exit1, u_eCall, okArgs, back, isSl, runF, lim, nth, oLen, oAbs, u_eMu, muEnd, uAppend, uPop1, uInsert, u_eRg1, oRg, u_sFor, u_iRg1, u_iRg2, u_iSeq, ofX, seqOf, u_eCh, u_eSl, u_eMeth, u_eProp, u_eMake, u_eObj, u_gT, u_sAsg, u_sAt, u_tYesV, u_eLc, u_eMt, u_sRaise1, u_iEnumV, u_iZipV, u_eKd, u_eIsE, u_eFE, q1, wipeQ, restP, e3, oTuple]
theorem p_call_bad1 (ps : List (Option Nat)) (ks : List Str) (xs ys : List Int) (h1 : xs.length ≠ ps.length) :
    F_Forest____call__ [foV ps ks, recV xs, recV ys] = .exc "BadRecord" [recV xs] [foV ps ks, recV xs, recV ys] := by
  have c1 := p_crec_bad ps.length xs h1
  unfold F_Forest____call__ W_Forest____call__
  simp [u_sSeq, u_sE, u_sSet, u_sRet, u_sRetN, u_sIf, u_sSub, u_sNx, u_sBk, u_sCt, u_eN, u_eC, u_eBin, u_eUn, u_eFn, u_eNot, u_eAnd, u_eOr, u_eIf, u_eTup, u_eLst, u_aCons, u_aNil, u_tB, u_tE, u_tNot, u_tAnd, u_tOr, keep, take, takes, hv, PV.toIo, PV.reFl, ofO, ofB, ofL, blOf, oIx, oAdd, oSub, oMul, oMod, oDiv, oPow, oI, oB, oGe, oLt, oLe, oGt, oInt, exitF, exit1, u_eCall, okArgs, back, isSl, runF, lim, nth, oLen, oAbs, u_eMu, muEnd, uAppend, uPop1, uInsert, u_eRg1, oRg, u_sFor, u_iRg1, u_iRg2, u_iSeq, ofX, seqOf, u_eCh, u_eSl, u_eMeth, u_eProp, u_eMake, u_eObj, u_gT, u_sAsg, u_sAt, u_tYesV, u_eLc, u_eMt, u_sRaise1, u_iEnumV, u_iZipV, u_eKd, u_eIsE, u_eFE, oAt, c1]
theorem p_call_bad2 (ps : List (Option Nat)) (ks : List Str) (xs ys : List Int) (h1 : xs.length = ps.length) (h2 : ys.length ≠ ps.length) :
    F_Forest____call__ [foV ps ks, recV xs, recV ys] = .exc "BadRecord" [recV ys] [foV ps ks, recV xs, recV ys] := by
  have c1 := p_crec ps.length xs h1
  have c2 := p_crec_bad ps.length ys h2
  unfold F_Forest____call__ W_Forest____call__
  simp [u_sSeq, u_sE, u_sSet, u_sRet, u_sRetN, u_sIf, u_sSub, u_sNx, u_sBk, u_sCt, u_eN, u_eC, u_eBin, u_eUn, u_eFn, u_eNot, u_eAnd, u_eOr, u_eIf, u_eTup, u_eLst, u_aCons, u_aNil, u_tB, u_tE, u_tNot, u_tAnd, u_tOr, keep, take, takes, hv, PV.toIo, PV.reFl, ofO, ofB, ofL, blOf, oIx, oAdd, oSub, oMul, oMod, oDiv, oPow, oI, oB, oGe, oLt, oLe, oGt, oInt, exitF, exit1, u_eCall, okArgs, back, isSl, runF, lim, nth, oLen, oAbs, u_eMu, muEnd, uAppend, uPop1, uInsert, u_eRg1, oRg, u_sFor, u_iRg1, u_iRg2, u_iSeq, ofX, seqOf, u_eCh, u_eSl, u_eMeth, u_eProp, u_eMake, u_eObj, u_gT, u_sAsg, u_sAt, u_tYesV, u_eLc, u_eMt, u_sRaise1, u_iEnumV, u_iZipV, u_eKd, u_eIsE, u_eFE, oAt, c1, c2]
theorem p_merged (ps : List (Option Nat)) (ks : List Str) (xs ys : List Int) (ok : FOk ps ks) (h1 : xs.length = ps.length) (h2 : ys.length = ps.length) :
    F__law_merged [foV ps ks, recV xs, recV ys] = .ok (.lst .ow [.int 0, recV (mg ps ks xs ys), .bl true]) [foV ps ks, recV xs, recV ys] := by
  have c := p_call ps ks xs ys ok h1 h2
  unfold F__law_merged W__law_merged
  simp [u_sSeq, u_sE, u_sSet, u_sRet, u_sRetN, u_sIf, u_sSub, u_sNx, u_sBk, u_sCt, u_eN, u_eC, u_eBin, u_eUn, u_eFn, u_eNot, u_eAnd, u_eOr, u_eIf, u_eTup, u_eLst, u_aCons, u_aNil, u_tB, u_tE, u_tNot, u_tAnd, u_tOr, keep, take, takes, hv, PV.toIo, PV.reFl, ofO, ofB, ofL, blOf, oIx, oAdd, oSub, oMul, oMod, oDiv, oPow, oI, oB, oGe, oLt, oLe, oGt, oInt, exitF, exit1, u_eCall, okArgs, back, isSl, runF, lim, nth, oLen, oAbs, u_eMu, muEnd, uAppend, uPop1, uInsert, u_eRg1, oRg, u_sFor, u_iRg1, u_iRg2, u_iSeq, ofX, seqOf, u_eCh, u_eSl, u_eMeth, u_eProp, u_eMake, u_eObj, u_gT, u_sAsg, u_sAt, u_tYesV, u_eLc, u_eMt, u_sRaise1, u_iEnumV, u_iZipV, u_eKd, u_eIsE, u_eFE, sTry, callH, isObj, c]
theorem p_merged_bad (ps : List (Option Nat)) (ks : List Str) (xs ys zs : List Int) (c : F_Forest____call__ [foV ps ks, recV xs, recV ys] = .exc "BadRecord" [recV zs] [foV ps ks, recV xs, recV ys]) :
    F__law_merged [foV ps ks, recV xs, recV ys] = .ok (.lst .ow [.int 2, recV zs, .bl true]) [foV ps ks, recV xs, recV ys] := by
  have kk : kin_BadRecord "BadRecord" = some true := by decide +kernel
  have k1 : ktab "BadRecord" "FieldridesError" = some true := by decide +kernel
  have k2 : ktab "BadRecord" "ValueError" = some true := by decide +kernel
  have k3 : ktab "BadRecord" "BadForest" = some false := by decide +kernel
  have k4 : ktab "BadRecord" "BadNumber" = some false := by decide +kernel
  have k5 : ktab "BadRecord" "BadPlace" = some false := by decide +kernel
  have k6 : ktab "BadRecord" "BadSizes" = some false := by decide +kernel
  have k7 : ktab "BadRecord" "NoRecord" = some false := by decide +kernel
  have ff : ftab "BadRecord" "record" = some 0 := by decide +kernel
  unfold F__law_merged W__law_merged
  simp [u_sSeq, u_sE, u_sSet, u_sRet, u_sRetN, u_sIf, u_sSub, u_sNx, u_sBk, u_sCt, u_eN, u_eC, u_eBin, u_eUn, u_eFn, u_eNot, u_eAnd, u_eOr, u_eIf, u_eTup, u_eLst, u_aCons, u_aNil, u_tB, u_tE, u_tNot, u_tAnd, u_tOr, keep, take, takes, hv, PV.toIo, PV.reFl, ofO, ofB, ofL, blOf, oIx, oAdd, oSub, oMul, oMod, oDiv, oPow, oI, oB, oGe, oLt, oLe, oGt, oInt, exitF, exit1, u_eCall, okArgs, back, isSl, runF, lim, nth, oLen, oAbs, u_eMu, muEnd, uAppend, uPop1, uInsert, u_eRg1, oRg, u_sFor, u_iRg1, u_iRg2, u_iSeq, ofX, seqOf, u_eCh, u_eSl, u_eMeth, u_eProp, u_eMake, u_eObj, u_gT, u_sAsg, u_sAt, u_tYesV, u_eLc, u_eMt, u_sRaise1, u_iEnumV, u_iZipV, u_eKd, u_eIsE, u_eFE, sTry, callH, isObj, c, sHds, kk]
  rw [pick_eq (r := .ok (.rt (.lst .ow [.int 2, recV zs, .bl true])) [foV ps ks, recV xs, recV ys, .emp, .emp, .bl true])]
  intro d hd
  simp [u_sSeq, u_sE, u_sSet, u_sRet, u_sRetN, u_sIf, u_sSub, u_sNx, u_sBk, u_sCt, u_eN, u_eC, u_eBin, u_eUn, u_eFn, u_eNot, u_eAnd, u_eOr, u_eIf, u_eTup, u_eLst, u_aCons, u_aNil, u_tB, u_tE, u_tNot, u_tAnd, u_tOr, keep, take, takes, hv, PV.toIo, PV.reFl, ofO, ofB, ofL, blOf, oIx, oAdd, oSub, oMul, oMod, oDiv, oPow, oI, oB, oGe, oLt, oLe, oGt, oInt, exitF, exit1, u_eCall, okArgs, back, isSl, runF, lim, nth, oLen, oAbs, u_eMu, muEnd, uAppend, uPop1, uInsert, u_eRg1, oRg, u_sFor, u_iRg1, u_iRg2, u_iSeq, ofX, seqOf, u_eCh, u_eSl, u_eMeth, u_eProp, u_eMake, u_eObj, u_gT, u_sAsg, u_sAt, u_tYesV, u_eLc, u_eMt, u_sRaise1, u_iEnumV, u_iZipV, u_eKd, u_eIsE, u_eFE, isE, isK, k1, k2, k3, k4, k5, k6, k7, ff, ktAny, clsNames, tru, outSlot]
theorem p_cplace (n : Nat) (f : Int) (h : f < 0 ∨ (n : Int) ≤ f) (hf : f.natAbs < 2 ^ 100) : F_check_place [.int n, .int f] = .exc "BadPlace" [.int f] [.int n, .int f] := by
  have fo : fmtOk (.int f) = true := by
    show decide (f.natAbs.log2 < 1920) = true
    refine decide_eq_true ?_
    by_cases h0 : f.natAbs = 0
    · rw [h0]; decide
    · have : f.natAbs.log2 < 100 := (Nat.log2_lt h0).mpr hf
      omega
  unfold F_check_place W_check_place
  by_cases h1 : f < 0
  · simp [u_sSeq, u_sE, u_sSet, u_sRet, u_sRetN, u_sIf, u_sSub, u_sNx, u_sBk, u_sCt, u_eN, u_eC, u_eBin, u_eUn, u_eFn, u_eNot, u_eAnd, u_eOr, u_eIf, u_eTup, u_eLst, u_aCons, u_aNil, u_tB, u_tE, u_tNot, u_tAnd, u_tOr, keep, take, takes, hv, PV.toIo, PV.reFl, ofO, ofB, ofL, blOf, oIx, oAdd, oSub, oMul, oMod, oDiv, oPow, oI, oB, oGe, oLt, oLe, oGt, oInt, exitF, exit1, u_eCall, okArgs, back, isSl, runF, lim, nth, oLen, oAbs, u_eMu, muEnd, uAppend, uPop1, uInsert, u_eRg1, oRg, u_sFor, u_iRg1, u_iRg2, u_iSeq, ofX, seqOf, u_eCh, u_eSl, u_eMeth, u_eProp, u_eMake, u_eObj, u_gT, u_sAsg, u_sAt, u_tYesV, u_eLc, u_eMt, u_sRaise1, u_iEnumV, u_iZipV, u_eKd, u_eIsE, u_eFE, h1, fo]
  · have h2 : (n : Int) ≤ f := by omega
    simp [u_sSeq, u_sE, u_sSet, u_sRet, u_sRetN, u_sIf, u_sSub, u_sNx, u_sBk, u_sCt, u_eN, u_eC, u_eBin, u_eUn, u_eFn, u_eNot, u_eAnd, u_eOr, u_eIf, u_eTup, u_eLst, u_aCons, u_aNil, u_tB, u_tE, u_tNot, u_tAnd, u_tOr, keep, take, takes, hv, PV.toIo, PV.reFl, ofO, ofB, ofL, blOf, oIx, oAdd, oSub, oMul, oMod, oDiv, oPow, oI, oB, oGe, oLt, oLe, oGt, oInt, exitF, exit1, u_eCall, okArgs, back, isSl, runF, lim, nth, oLen, oAbs, u_eMu, muEnd, uAppend, uPop1, uInsert, u_eRg1, oRg, u_sFor, u_iRg1, u_iRg2, u_iSeq, ofX, seqOf, u_eCh, u_eSl, u_eMeth, u_eProp, u_eMake, u_eObj, u_gT, u_sAsg, u_sAt, u_tYesV, u_eLc, u_eMt, u_sRaise1, u_iEnumV, u_iZipV, u_eKd, u_eIsE, u_eFE, h1, h2, fo]
theorem p_unl_place (ps : List (Option Nat)) (ks : List Str) (f : Int) (xs ys : List Int) (h : f < 0 ∨ (ps.length : Int) ≤ f) (hf : f.natAbs < 2 ^ 100) :
    F_first_unlike [foV ps ks, .int f, recV xs, recV ys] = .exc "BadPlace" [.int f] [foV ps ks, .int f, recV xs, recV ys] := by
  have c := p_cplace ps.length f h hf
  unfold F_first_unlike W_first_unlike
  simp [u_sSeq, u_sE, u_sSet, u_sRet, u_sRetN, u_sIf, u_sSub, u_sNx, u_sBk, u_sCt, u_eN, u_eC, u_eBin, u_eUn, u_eFn, u_eNot, u_eAnd, u_eOr, u_eIf, u_eTup, u_eLst, u_aCons, u_aNil, u_tB, u_tE, u_tNot, u_tAnd, u_tOr, keep, take, takes, hv, PV.toIo, PV.reFl, ofO, ofB, ofL, blOf, oIx, oAdd, oSub, oMul, oMod, oDiv, oPow, oI, oB, oGe, oLt, oLe, oGt, oInt, exitF, exit1, u_eCall, okArgs, back, isSl, runF, lim, nth, oLen, oAbs, u_eMu, muEnd, uAppend, uPop1, uInsert, u_eRg1, oRg, u_sFor, u_iRg1, u_iRg2, u_iSeq, ofX, seqOf, u_eCh, u_eSl, u_eMeth, u_eProp, u_eMake, u_eObj, u_gT, u_sAsg, u_sAt, u_tYesV, u_eLc, u_eMt, u_sRaise1, u_iEnumV, u_iZipV, u_eKd, u_eIsE, u_eFE, oAt, c]
theorem p_cplace_ok (n i : Nat) (h : i < n) : F_check_place [.int n, .int (i : Int)] = .ok .non [.int n, .int (i : Int)] := by
  unfold F_check_place W_check_place
  have q1 : ¬ (i : Int) < 0 := by omega
  have q2 : ¬ (n : Int) ≤ i := by omega
  simp [u_sSeq, u_sE, u_sSet, u_sRet, u_sRetN, u_sIf, u_sSub, u_sNx, u_sBk, u_sCt, u_eN, u_eC, u_eBin, u_eUn, u_eFn, u_eNot, u_eAnd, u_eOr, u_eIf, u_eTup, u_eLst, u_aCons, u_aNil, u_tB, u_tE, u_tNot, u_tAnd, u_tOr, keep, take, takes, hv, PV.toIo, PV.reFl, ofO, ofB, ofL, blOf, oIx, oAdd, oSub, oMul, oMod, oDiv, oPow, oI, oB, oGe, oLt, oLe, oGt, oInt, exitF, exit1, u_eCall, okArgs, back, isSl, runF, lim, nth, oLen, oAbs, u_eMu, muEnd, uAppend, uPop1, uInsert, u_eRg1, oRg, u_sFor, u_iRg1, u_iRg2, u_iSeq, ofX, seqOf, u_eCh, u_eSl, u_eMeth, u_eProp, u_eMake, u_eObj, u_gT, u_sAsg, u_sAt, u_tYesV, u_eLc, u_eMt, u_sRaise1, u_iEnumV, u_iZipV, u_eKd, u_eIsE, u_eFE, q1, q2]
theorem p_unl_bad1 (ps : List (Option Nat)) (ks : List Str) (i : Nat) (xs ys : List Int) (hi : i < ps.length) (h1 : xs.length ≠ ps.length) :
    F_first_unlike [foV ps ks, .int (i : Int), recV xs, recV ys] = .exc "BadRecord" [recV xs] [foV ps ks, .int (i : Int), recV xs, recV ys] := by
  have c := p_cplace_ok ps.length i hi
  have c1 := p_crec_bad ps.length xs h1
  unfold F_first_unlike W_first_unlike
  simp [u_sSeq, u_sE, u_sSet, u_sRet, u_sRetN, u_sIf, u_sSub, u_sNx, u_sBk, u_sCt, u_eN, u_eC, u_eBin, u_eUn, u_eFn, u_eNot, u_eAnd, u_eOr, u_eIf, u_eTup, u_eLst, u_aCons, u_aNil, u_tB, u_tE, u_tNot, u_tAnd, u_tOr, keep, take, takes, hv, PV.toIo, PV.reFl, ofO, ofB, ofL, blOf, oIx, oAdd, oSub, oMul, oMod, oDiv, oPow, oI, oB, oGe, oLt, oLe, oGt, oInt, exitF, exit1, u_eCall, okArgs, back, isSl, runF, lim, nth, oLen, oAbs, u_eMu, muEnd, uAppend, uPop1, uInsert, u_eRg1, oRg, u_sFor, u_iRg1, u_iRg2, u_iSeq, ofX, seqOf, u_eCh, u_eSl, u_eMeth, u_eProp, u_eMake, u_eObj, u_gT, u_sAsg, u_sAt, u_tYesV, u_eLc, u_eMt, u_sRaise1, u_iEnumV, u_iZipV, u_eKd, u_eIsE, u_eFE, oAt, c, c1]
theorem p_unl_bad2 (ps : List (Option Nat)) (ks : List Str) (i : Nat) (xs ys : List Int) (hi : i < ps.length) (h1 : xs.length = ps.length) (h2 : ys.length ≠ ps.length) :
    F_first_unlike [foV ps ks, .int (i : Int), recV xs, recV ys] = .exc "BadRecord" [recV ys] [foV ps ks, .int (i : Int), recV xs, recV ys] := by
  have c := p_cplace_ok ps.length i hi
  have c1 := p_crec ps.length xs h1
  have c2 := p_crec_bad ps.length ys h2
  unfold F_first_unlike W_first_unlike
  simp [u_sSeq, u_sE, u_sSet, u_sRet, u_sRetN, u_sIf, u_sSub, u_sNx, u_sBk, u_sCt, u_eN, u_eC, u_eBin, u_eUn, u_eFn, u_eNot, u_eAnd, u_eOr, u_eIf, u_eTup, u_eLst, u_aCons, u_aNil, u_tB, u_tE, u_tNot, u_tAnd, u_tOr, keep, take, takes, hv, PV.toIo, PV.reFl, ofO, ofB, ofL, blOf, oIx, oAdd, oSub, oMul, oMod, oDiv, oPow, oI, oB, oGe, oLt, oLe, oGt, oInt, exitF, exit1, u_eCall, okArgs, back, isSl, runF, lim, nth, oLen, oAbs, u_eMu, muEnd, uAppend, uPop1, uInsert, u_eRg1, oRg, u_sFor, u_iRg1, u_iRg2, u_iSeq, ofX, seqOf, u_eCh, u_eSl, u_eMeth, u_eProp, u_eMake, u_eObj, u_gT, u_sAsg, u_sAt, u_tYesV, u_eLc, u_eMt, u_sRaise1, u_iEnumV, u_iZipV, u_eKd, u_eIsE, u_eFE, oAt, c, c1, c2]
theorem p_lf_ok (ps : List (Option Nat)) (ks : List Str) (f : Int) (xs ys : List Int) (a : Option Nat) (c : F_first_unlike [foV ps ks, .int f, recV xs, recV ys] = .ok (pP a) [foV ps ks, .int f, recV xs, recV ys]) :
    F__law_first [foV ps ks, .int f, recV xs, recV ys] = .ok (.lst .ow [.int 0, pP a, .bl true]) [foV ps ks, .int f, recV xs, recV ys] := by
  unfold F__law_first W__law_first
  cases a with
  | none => simp only [pP_none] at c; simp [u_sSeq, u_sE, u_sSet, u_sRet, u_sRetN, u_sIf, u_sSub, u_sNx, u_sBk, u_sCt, u_eN, u_eC, u_eBin, u_eUn, u_eFn, u_eNot, u_eAnd, u_eOr, u_eIf, u_eTup, u_eLst, u_aCons, u_aNil, u_tB, u_tE, u_tNot, u_tAnd, u_tOr, keep, take, takes, hv, PV.toIo, PV.reFl, ofO, ofB, ofL, blOf, oIx, oAdd, oSub, oMul, oMod, oDiv, oPow, oI, oB, oGe, oLt, oLe, oGt, oInt, exitF, exit1, u_eCall, okArgs, back, isSl, runF, lim, nth, oLen, oAbs, u_eMu, muEnd, uAppend, uPop1, uInsert, u_eRg1, oRg, u_sFor, u_iRg1, u_iRg2, u_iSeq, ofX, seqOf, u_eCh, u_eSl, u_eMeth, u_eProp, u_eMake, u_eObj, u_gT, u_sAsg, u_sAt, u_tYesV, u_eLc, u_eMt, u_sRaise1, u_iEnumV, u_iZipV, u_eKd, u_eIsE, u_eFE, sTry, c]
  | some j => simp only [pP_some] at c; simp [u_sSeq, u_sE, u_sSet, u_sRet, u_sRetN, u_sIf, u_sSub, u_sNx, u_sBk, u_sCt, u_eN, u_eC, u_eBin, u_eUn, u_eFn, u_eNot, u_eAnd, u_eOr, u_eIf, u_eTup, u_eLst, u_aCons, u_aNil, u_tB, u_tE, u_tNot, u_tAnd, u_tOr, keep, take, takes, hv, PV.toIo, PV.reFl, ofO, ofB, ofL, blOf, oIx, oAdd, oSub, oMul, oMod, oDiv, oPow, oI, oB, oGe, oLt, oLe, oGt, oInt, exitF, exit1, u_eCall, okArgs, back, isSl, runF, lim, nth, oLen, oAbs, u_eMu, muEnd, uAppend, uPop1, uInsert, u_eRg1, oRg, u_sFor, u_iRg1, u_iRg2, u_iSeq, ofX, seqOf, u_eCh, u_eSl, u_eMeth, u_eProp, u_eMake, u_eObj, u_gT, u_sAsg, u_sAt, u_tYesV, u_eLc, u_eMt, u_sRaise1, u_iEnumV, u_iZipV, u_eKd, u_eIsE, u_eFE, sTry, c]
theorem p_lf_place (ps : List (Option Nat)) (ks : List Str) (f : Int) (xs ys : List Int) (c : F_first_unlike [foV ps ks, .int f, recV xs, recV ys] = .exc "BadPlace" [.int f] [foV ps ks, .int f, recV xs, recV ys]) :
    F__law_first [foV ps ks, .int f, recV xs, recV ys] = .ok (.lst .ow [.int 1, .int f, .bl true]) [foV ps ks, .int f, recV xs, recV ys] := by
  have kk : kin_BadPlace "BadPlace" = some true := by decide +kernel
  have k1 : ktab "BadPlace" "FieldridesError" = some true := by decide +kernel
  have k2 : ktab "BadPlace" "ValueError" = some true := by decide +kernel
  have k3 : ktab "BadPlace" "BadForest" = some false := by decide +kernel
  have k4 : ktab "BadPlace" "BadNumber" = some false := by decide +kernel
  have k5 : ktab "BadPlace" "BadRecord" = some false := by decide +kernel
  have k6 : ktab "BadPlace" "BadSizes" = some false := by decide +kernel
  have k7 : ktab "BadPlace" "NoRecord" = some false := by decide +kernel
  have k8 : ktab "BadPlace" "Marked" = some false := by decide +kernel
  have ff : ftab "BadPlace" "place" = some 0 := by decide +kernel
  unfold F__law_first W__law_first
  simp [u_sSeq, u_sE, u_sSet, u_sRet, u_sRetN, u_sIf, u_sSub, u_sNx, u_sBk, u_sCt, u_eN, u_eC, u_eBin, u_eUn, u_eFn, u_eNot, u_eAnd, u_eOr, u_eIf, u_eTup, u_eLst, u_aCons, u_aNil, u_tB, u_tE, u_tNot, u_tAnd, u_tOr, keep, take, takes, hv, PV.toIo, PV.reFl, ofO, ofB, ofL, blOf, oIx, oAdd, oSub, oMul, oMod, oDiv, oPow, oI, oB, oGe, oLt, oLe, oGt, oInt, exitF, exit1, u_eCall, okArgs, back, isSl, runF, lim, nth, oLen, oAbs, u_eMu, muEnd, uAppend, uPop1, uInsert, u_eRg1, oRg, u_sFor, u_iRg1, u_iRg2, u_iSeq, ofX, seqOf, u_eCh, u_eSl, u_eMeth, u_eProp, u_eMake, u_eObj, u_gT, u_sAsg, u_sAt, u_tYesV, u_eLc, u_eMt, u_sRaise1, u_iEnumV, u_iZipV, u_eKd, u_eIsE, u_eFE, sTry, c, sHds, kk]
  rw [pick_eq (r := .ok (.rt (.lst .ow [.int 1, .int f, .bl true])) [foV ps ks, .int f, recV xs, recV ys, .emp, .emp, .bl true, .emp])]
  intro d hd
  simp [u_sSeq, u_sE, u_sSet, u_sRet, u_sRetN, u_sIf, u_sSub, u_sNx, u_sBk, u_sCt, u_eN, u_eC, u_eBin, u_eUn, u_eFn, u_eNot, u_eAnd, u_eOr, u_eIf, u_eTup, u_eLst, u_aCons, u_aNil, u_tB, u_tE, u_tNot, u_tAnd, u_tOr, keep, take, takes, hv, PV.toIo, PV.reFl, ofO, ofB, ofL, blOf, oIx, oAdd, oSub, oMul, oMod, oDiv, oPow, oI, oB, oGe, oLt, oLe, oGt, oInt, exitF, exit1, u_eCall, okArgs, back, isSl, runF, lim, nth, oLen, oAbs, u_eMu, muEnd, uAppend, uPop1, uInsert, u_eRg1, oRg, u_sFor, u_iRg1, u_iRg2, u_iSeq, ofX, seqOf, u_eCh, u_eSl, u_eMeth, u_eProp, u_eMake, u_eObj, u_gT, u_sAsg, u_sAt, u_tYesV, u_eLc, u_eMt, u_sRaise1, u_iEnumV, u_iZipV, u_eKd, u_eIsE, u_eFE, isE, isK, k1, k2, k3, k4, k5, k6, k7, k8, ff, ktAny, clsNames, tru, outSlot]
theorem p_lf_rec (ps : List (Option Nat)) (ks : List Str) (f : Int) (xs ys zs : List Int) (c : F_first_unlike [foV ps ks, .int f, recV xs, recV ys] = .exc "BadRecord" [recV zs] [foV ps ks, .int f, recV xs, recV ys]) :
    F__law_first [foV ps ks, .int f, recV xs, recV ys] = .ok (.lst .ow [.int 2, recV zs, .bl true]) [foV ps ks, .int f, recV xs, recV ys] := by
  have kk0 : kin_BadPlace "BadRecord" = some false := by decide +kernel
  have kk : kin_BadRecord "BadRecord" = some true := by decide +kernel
  have k1 : ktab "BadRecord" "FieldridesError" = some true := by decide +kernel
  have k2 : ktab "BadRecord" "ValueError" = some true := by decide +kernel
  have k3 : ktab "BadRecord" "BadForest" = some false := by decide +kernel
  have k4 : ktab "BadRecord" "BadNumber" = some false := by decide +kernel
  have k5 : ktab "BadRecord" "BadPlace" = some false := by decide +kernel
  have k6 : ktab "BadRecord" "BadSizes" = some false := by decide +kernel
  have k7 : ktab "BadRecord" "NoRecord" = some false := by decide +kernel
  have ff : ftab "BadRecord" "record" = some 0 := by decide +kernel
  unfold F__law_first W__law_first
  simp [u_sSeq, u_sE, u_sSet, u_sRet, u_sRetN, u_sIf, u_sSub, u_sNx, u_sBk, u_sCt, u_eN, u_eC, u_eBin, u_eUn, u_eFn, u_eNot, u_eAnd, u_eOr, u_eIf, u_eTup, u_eLst, u_aCons, u_aNil, u_tB, u_tE, u_tNot, u_tAnd, u_tOr, keep, take, takes, hv, PV.toIo, PV.reFl, ofO, ofB, ofL, blOf, oIx, oAdd, oSub, oMul, oMod, oDiv, oPow, oI, oB, oGe, oLt, oLe, oGt, oInt, exitF, exit1, u_eCall, okArgs, back, isSl, runF, lim, nth, oLen, oAbs, u_eMu, muEnd, uAppend, uPop1, uInsert, u_eRg1, oRg, u_sFor, u_iRg1, u_iRg2, u_iSeq, ofX, seqOf, u_eCh, u_eSl, u_eMeth, u_eProp, u_eMake, u_eObj, u_gT, u_sAsg, u_sAt, u_tYesV, u_eLc, u_eMt, u_sRaise1, u_iEnumV, u_iZipV, u_eKd, u_eIsE, u_eFE, sTry, c, sHds, kk, kk0]
  rw [pick_eq (r := .ok (.rt (.lst .ow [.int 2, recV zs, .bl true])) [foV ps ks, .int f, recV xs, recV ys, .emp, .emp, .bl true, .emp])]
  intro d hd
  simp [u_sSeq, u_sE, u_sSet, u_sRet, u_sRetN, u_sIf, u_sSub, u_sNx, u_sBk, u_sCt, u_eN, u_eC, u_eBin, u_eUn, u_eFn, u_eNot, u_eAnd, u_eOr, u_eIf, u_eTup, u_eLst, u_aCons, u_aNil, u_tB, u_tE, u_tNot, u_tAnd, u_tOr, keep, take, takes, hv, PV.toIo, PV.reFl, ofO, ofB, ofL, blOf, oIx, oAdd, oSub, oMul, oMod, oDiv, oPow, oI, oB, oGe, oLt, oLe, oGt, oInt, exitF, exit1, u_eCall, okArgs, back, isSl, runF, lim, nth, oLen, oAbs, u_eMu, muEnd, uAppend, uPop1, uInsert, u_eRg1, oRg, u_sFor, u_iRg1, u_iRg2, u_iSeq, ofX, seqOf, u_eCh, u_eSl, u_eMeth, u_eProp, u_eMake, u_eObj, u_gT, u_sAsg, u_sAt, u_tYesV, u_eLc, u_eMt, u_sRaise1, u_iEnumV, u_iZipV, u_eKd, u_eIsE, u_eFE, isE, isK, k1, k2, k3, k4, k5, k6, k7, ff, ktAny, clsNames, tru, outSlot]
end Law

set_option linter.all false
set_option maxRecDepth 100000
namespace Law
open VL PySem My
@[simp] theorem at20 {α : Type} (a b : α) : L2.atI [a, b] 0 = some a := rfl
@[simp] theorem at21 {α : Type} (a b : α) : L2.atI [a, b] 1 = some b := rfl
@[simp] theorem at30 {α : Type} (a b c : α) : L2.atI [a, b, c] 0 = some a := rfl
@[simp] theorem at31 {α : Type} (a b c : α) : L2.atI [a, b, c] 1 = some b := rfl
@[simp] theorem at32 {α : Type} (a b c : α) : L2.atI [a, b, c] 2 = some c := rfl
theorem p_sameR (zs : List Int) (h : zs.length ≤ 1000) : F__law_same [recV zs, recV zs] = .ok (.bl true) [recV zs, recV zs] := by
  have e := p_sameT (zs.map some) (by simpa using h)
  simp only [List.map_map] at e
  exact e
theorem cut_rec (xs : List Int) (n : Nat) (hn : 1 ≤ n) (h : xs.length = n) : ∃ g : List Int, oCut (recV xs) none (some ((n : Int) - 1)) = some (recV g) ∧ g.length + 1 = n := by
  refine ⟨xs.take (n - 1), ?_, by simp; omega⟩
  have e : ((n : Int) - 1).toNat = n - 1 := by omega
  simp only [oCut, cutL, List.length_map, h]
  unfold HT.sIx
  have q1 : ¬ ((n : Int) - 1 < 0) := by omega
  simp [q1, List.map_take]
theorem ref_step (ps : List (Option Nat)) (ks : List Str) (P : List PV) (c k i : Int) (n : Nat) (D : PV) (G : List PV) (hG : G.length < 1000) (s9 s10 : PV) (i9 : s9.isIo = false) (i10 : s10.isIo = false) (r : List Int) (hr : r.length = n) (hn : 1 ≤ n) (hn2 : n ≤ 16) :
    ∃ (g : List Int) (c' k' pk : Int), gN 9 (recV r) [foV ps ks, .lst .fz (ps.map pP), .lst .fz (ks.map .str), .lst .io [.int c, .int k], .lst .io P, .int n, .int i, D, .lst .ow G, s9, s10, .emp, .emp] = some [foV ps ks, .lst .fz (ps.map pP), .lst .fz (ks.map .str), .lst .io [.int c, .int k], .lst .io P, .int n, .int i, D, .lst .ow G, recV r, s10, .emp, .emp] ∧
      B__law_refuses_1 [foV ps ks, .lst .fz (ps.map pP), .lst .fz (ks.map .str), .lst .io [.int c, .int k], .lst .io P, .int n, .int i, D, .lst .ow G, recV r, s10, .emp, .emp] = .ok .nx [foV ps ks, .lst .fz (ps.map pP), .lst .fz (ks.map .str), .lst .io [.int c', .int k'], .lst .io P, .int n, .int i, D, .lst .ow (G ++ [recV g]), recV r, .int pk, .emp, .emp] ∧ (g = r ∨ g.length ≠ n) ∧ g.length ≤ 20 := by
  obtain ⟨p, c1, e1, p0, p1⟩ := p_take c k 4 .io (by decide) (by omega) (by omega)
  obtain ⟨g0, cu, hg0⟩ := cut_rec r n hn hr
  have h5 : G.length < 100000 := by omega
  have h6 : r.length + 1 ≤ 100000 := by omega
  have hp : p = 0 ∨ p = 1 ∨ p = 2 ∨ p = 3 := by omega
  have key : ∃ g : List Int, L2.atI [recV g0, recV (r ++ [0]), recV r, recV r] p = some (recV g) ∧ (g = r ∨ g.length ≠ n) ∧ g.length ≤ 20 := by
    rcases hp with rfl | rfl | rfl | rfl
    · exact ⟨g0, rfl, .inr (by omega), by omega⟩
    · exact ⟨r ++ [0], rfl, .inr (by simp; omega), by simp; omega⟩
    · exact ⟨r, rfl, .inl rfl, by omega⟩
    · exact ⟨r, rfl, .inl rfl, by omega⟩
  obtain ⟨g, hg, g1, g2⟩ := key
  refine ⟨g, c1, k + 1, p, gN_ok i9, ?_, g1, g2⟩
  unfold B__law_refuses_1
  have ea : recV (r ++ [0]) = .tup (r.map .int ++ [.int 0]) := by simp
  rw [ea] at hg
  simp [u_sSeq, u_sE, u_sSet, u_sRet, u_sRetN, u_sIf, u_sSub, u_sNx, u_sBk, u_sCt, u_eN, u_eC, u_eBin, u_eUn, u_eFn, u_eNot, u_eAnd, u_eOr, u_eIf, u_eTup, u_eLst, u_aCons, u_aNil, u_tB, u_tE, u_tNot, u_tAnd, u_tOr, keep, take, takes, hv, PV.toIo, PV.reFl, ofO, ofB, ofL, blOf, oIx, oAdd, oSub, oMul, oMod, oDiv, oPow, oI, oB, oGe, oLt, oLe, oGt, oInt, exitF, exit1, u_eCall, okArgs, back, isSl, runF, lim, nth, oLen, oAbs, u_eMu, muEnd, uAppend, uPop1, uInsert, u_eRg1, oRg, u_sFor, u_iRg1, u_iRg2, u_iSeq, ofX, seqOf, u_eCh, u_eSl, u_eMeth, u_eProp, u_eMake, u_eObj, u_gT, u_sAsg, u_sAt, u_tYesV, u_eLc, u_eMt, u_sRaise1, u_iEnumV, u_iZipV, u_eKd, u_eIsE, u_eFE, e1, i10, part, cu, h5, h6, hg]
theorem oNe_int (i j : Int) : oEq true (.int i) (.int j) = some (.bl (true != (i == j))) := oEq_int _ _ _
theorem ref2_place (ps : List (Option Nat)) (ks : List Str) (tp P s9 s10 s11 : PV) (n : Nat) (f t : Int) (g0 g1 : List Int) (h11 : s11.isIo = false) (h : f < 0 ∨ (ps.length : Int) ≤ f) (hf : f.natAbs < 2 ^ 100) :
    B__law_refuses_2 [foV ps ks, .lst .fz (ps.map pP), .lst .fz (ks.map .str), tp, P, .int n, .int f, .lst .ow [.int 1, .int f], .lst .ow [recV g0, recV g1], s9, s10, s11, .int t] =
      .ok .nx [foV ps ks, .lst .fz (ps.map pP), .lst .fz (ks.map .str), tp, P, .int n, .int f, .lst .ow [.int 1, .int f], .lst .ow [recV g0, recV g1], s9, s10, .lst .ow [.int 1, .int f, .bl true], .int t] := by
  have c := p_lf_place ps ks f g0 g1 (p_unl_place ps ks f g0 g1 h hf)
  have s := p_sameL [some f] (by simp)
  simp only [List.map_cons, List.map_nil] at s
  unfold B__law_refuses_2
  simp [u_sSeq, u_sE, u_sSet, u_sRet, u_sRetN, u_sIf, u_sSub, u_sNx, u_sBk, u_sCt, u_eN, u_eC, u_eBin, u_eUn, u_eFn, u_eNot, u_eAnd, u_eOr, u_eIf, u_eTup, u_eLst, u_aCons, u_aNil, u_tB, u_tE, u_tNot, u_tAnd, u_tOr, keep, take, takes, hv, PV.toIo, PV.reFl, ofO, ofB, ofL, blOf, oIx, oAdd, oSub, oMul, oMod, oDiv, oPow, oI, oB, oGe, oLt, oLe, oGt, oInt, exitF, exit1, u_eCall, okArgs, back, isSl, runF, lim, nth, oLen, oAbs, u_eMu, muEnd, uAppend, uPop1, uInsert, u_eRg1, oRg, u_sFor, u_iRg1, u_iRg2, u_iSeq, ofX, seqOf, u_eCh, u_eSl, u_eMeth, u_eProp, u_eMake, u_eObj, u_gT, u_sAsg, u_sAt, u_tYesV, u_eLc, u_eMt, u_sRaise1, u_iEnumV, u_iZipV, u_eKd, u_eIsE, u_eFE, c, h11, s, tru]
theorem ref2_rec (ps : List (Option Nat)) (ks : List Str) (tp P s9 s10 s11 : PV) (n : Nat) (f t : Int) (g0 g1 zs : List Int) (h11 : s11.isIo = false) (hz : zs.length ≤ 1000)
    (u : F_first_unlike [foV ps ks, .int f, recV g0, recV g1] = .exc "BadRecord" [recV zs] [foV ps ks, .int f, recV g0, recV g1]) :
    B__law_refuses_2 [foV ps ks, .lst .fz (ps.map pP), .lst .fz (ks.map .str), tp, P, .int n, .int f, .lst .ow [.int 2, recV zs], .lst .ow [recV g0, recV g1], s9, s10, s11, .int t] =
      .ok .nx [foV ps ks, .lst .fz (ps.map pP), .lst .fz (ks.map .str), tp, P, .int n, .int f, .lst .ow [.int 2, recV zs], .lst .ow [recV g0, recV g1], s9, s10, .lst .ow [.int 2, recV zs, .bl true], .int t] := by
  have c := p_lf_rec ps ks f g0 g1 zs u
  have s := p_sameR zs hz
  unfold B__law_refuses_2
  simp [u_sSeq, u_sE, u_sSet, u_sRet, u_sRetN, u_sIf, u_sSub, u_sNx, u_sBk, u_sCt, u_eN, u_eC, u_eBin, u_eUn, u_eFn, u_eNot, u_eAnd, u_eOr, u_eIf, u_eTup, u_eLst, u_aCons, u_aNil, u_tB, u_tE, u_tNot, u_tAnd, u_tOr, keep, take, takes, hv, PV.toIo, PV.reFl, ofO, ofB, ofL, blOf, oIx, oAdd, oSub, oMul, oMod, oDiv, oPow, oI, oB, oGe, oLt, oLe, oGt, oInt, exitF, exit1, u_eCall, okArgs, back, isSl, runF, lim, nth, oLen, oAbs, u_eMu, muEnd, uAppend, uPop1, uInsert, u_eRg1, oRg, u_sFor, u_iRg1, u_iRg2, u_iSeq, ofX, seqOf, u_eCh, u_eSl, u_eMeth, u_eProp, u_eMake, u_eObj, u_gT, u_sAsg, u_sAt, u_tYesV, u_eLc, u_eMt, u_sRaise1, u_iEnumV, u_iZipV, u_eKd, u_eIsE, u_eFE, c, h11, s, tru]
theorem ref2_ok (ps : List (Option Nat)) (ks : List Str) (tp s9 s10 s11 : PV) (n i : Nat) (t : Int) (xs ys : List Int) (h11 : s11.isIo = false) (ok : FOk ps ks) (hi : i < ps.length) (h1 : xs.length = ps.length) (h2 : ys.length = ps.length) :
    B__law_refuses_2 [foV ps ks, .lst .fz (ps.map pP), .lst .fz (ks.map .str), tp, .lst .io [recV xs, recV ys], .int n, .int (i : Int), .lst .ow [.int 0, .non], .lst .ow [recV xs, recV ys], s9, s10, s11, .int t] =
      .ok .nx [foV ps ks, .lst .fz (ps.map pP), .lst .fz (ks.map .str), tp, .lst .io [recV xs, recV ys], .int n, .int (i : Int), .lst .ow [.int 0, .non], .lst .ow [recV xs, recV ys], s9, s10, .lst .ow [.int 0, pP (fd xs ys (path ps i)), .bl true], .int t] := by
  have most := ok.most
  have u := p_unl ps ks i xs ys ok hi h1 h2
  have c := p_lf_ok ps ks i xs ys _ u
  have e2 := p_unlike ps i xs ys ok.acy (by omega) hi h1 h2
  unfold B__law_refuses_2
  cases q : fd xs ys (path ps i) with
  | none =>
    rw [q] at c e2
    have s := p_sameL [none] (by simp)
    simp only [List.map_cons, List.map_nil] at s
    simp [u_sSeq, u_sE, u_sSet, u_sRet, u_sRetN, u_sIf, u_sSub, u_sNx, u_sBk, u_sCt, u_eN, u_eC, u_eBin, u_eUn, u_eFn, u_eNot, u_eAnd, u_eOr, u_eIf, u_eTup, u_eLst, u_aCons, u_aNil, u_tB, u_tE, u_tNot, u_tAnd, u_tOr, keep, take, takes, hv, PV.toIo, PV.reFl, ofO, ofB, ofL, blOf, oIx, oAdd, oSub, oMul, oMod, oDiv, oPow, oI, oB, oGe, oLt, oLe, oGt, oInt, exitF, exit1, u_eCall, okArgs, back, isSl, runF, lim, nth, oLen, oAbs, u_eMu, muEnd, uAppend, uPop1, uInsert, u_eRg1, oRg, u_sFor, u_iRg1, u_iRg2, u_iSeq, ofX, seqOf, u_eCh, u_eSl, u_eMeth, u_eProp, u_eMake, u_eObj, u_gT, u_sAsg, u_sAt, u_tYesV, u_eLc, u_eMt, u_sRaise1, u_iEnumV, u_iZipV, u_eKd, u_eIsE, u_eFE, c, h11, s, tru, e2]
  | some j =>
    rw [q] at c e2
    have s := p_sameL [some (j : Int)] (by simp)
    simp only [List.map_cons, List.map_nil] at s
    simp [u_sSeq, u_sE, u_sSet, u_sRet, u_sRetN, u_sIf, u_sSub, u_sNx, u_sBk, u_sCt, u_eN, u_eC, u_eBin, u_eUn, u_eFn, u_eNot, u_eAnd, u_eOr, u_eIf, u_eTup, u_eLst, u_aCons, u_aNil, u_tB, u_tE, u_tNot, u_tAnd, u_tOr, keep, take, takes, hv, PV.toIo, PV.reFl, ofO, ofB, ofL, blOf, oIx, oAdd, oSub, oMul, oMod, oDiv, oPow, oI, oB, oGe, oLt, oLe, oGt, oInt, exitF, exit1, u_eCall, okArgs, back, isSl, runF, lim, nth, oLen, oAbs, u_eMu, muEnd, uAppend, uPop1, uInsert, u_eRg1, oRg, u_sFor, u_iRg1, u_iRg2, u_iSeq, ofX, seqOf, u_eCh, u_eSl, u_eMeth, u_eProp, u_eMake, u_eObj, u_gT, u_sAsg, u_sAt, u_tYesV, u_eLc, u_eMt, u_sRaise1, u_iEnumV, u_iZipV, u_eKd, u_eIsE, u_eFE, c, h11, s, tru, e2]
theorem rg2 : rgL 0 2 = [.int 0, .int 1] := rfl
theorem loop2 {t : Tg} {f : M Fw} {a b : PV} {ρ ρ1 ρ2 ρ3 ρ4 : List PV} (e1 : t a ρ = some ρ1) (e2 : f ρ1 = .ok .nx ρ2) (e3 : t b ρ2 = some ρ3) (e4 : f ρ3 = .ok .nx ρ4) : loop t f [a, b] ρ = .ok .nx ρ4 := by
  simp only [loop, e1, e2, e3, e4]
end Law

set_option linter.all false
set_option maxRecDepth 100000
namespace Law
open VL PySem My
theorem end2 (ps : List (Option Nat)) (ks : List Str) (tp P D G s9 s10 s11 T : PV) (n : Nat) (f : Int) (h11 : s11.isIo = false) (hT : T.isIo = false)
    (b : ∀ (s11 : PV) (t : Int), s11.isIo = false → B__law_refuses_2 [foV ps ks, .lst .fz (ps.map pP), .lst .fz (ks.map .str), tp, P, .int n, .int f, D, G, s9, s10, s11, .int t] = .ok .nx [foV ps ks, .lst .fz (ps.map pP), .lst .fz (ks.map .str), tp, P, .int n, .int f, D, G, s9, s10, T, .int t]) :
    loop (gN 12) B__law_refuses_2 (rgL 0 2) [foV ps ks, .lst .fz (ps.map pP), .lst .fz (ks.map .str), tp, P, .int n, .int f, D, G, s9, s10, s11, .emp] = .ok .nx [foV ps ks, .lst .fz (ps.map pP), .lst .fz (ks.map .str), tp, P, .int n, .int f, D, G, s9, s10, T, .int 1] := by
  rw [rg2]
  exact loop2 (gN_ok rfl) (b s11 0 h11) (gN_ok rfl) (b T 1 hT)
theorem p_refuses (ps : List (Option Nat)) (ks : List Str) (c k : Int) (xs ys : List Int) (ok : FOk ps ks) (h1 : xs.length = ps.length) (h2 : ys.length = ps.length) :
    ∃ c' k', F__law_refuses [foV ps ks, .lst .fz (ps.map pP), .lst .fz (ks.map .str), .lst .ow [.int c, .int k], .lst .ow [recV xs, recV ys]] = .ok (.bl true) [foV ps ks, .lst .fz (ps.map pP), .lst .fz (ks.map .str), .lst .ow [.int c', .int k'], .lst .ow [recV xs, recV ys]] := by
  have most := ok.most
  have pos := ok.pos
  obtain ⟨i0, c1, e0, p0, p1⟩ := p_take c k ps.length .io (by decide) (by omega) (by omega)
  obtain ⟨i, rfl⟩ : ∃ i : Nat, i0 = i := ⟨i0.toNat, by omega⟩
  have hi : i < ps.length := by omega
  obtain ⟨g0, c2, k2, pk, a1, b1, d1, z1⟩ := ref_step ps ks [recV xs, recV ys] c1 (k + 1) i ps.length (.lst .ow [.int 0, .non]) [] (by decide) .emp .emp rfl rfl xs h1 pos most
  obtain ⟨g1, c3, k3, pk3, a2, b2, d2, z2⟩ := ref_step ps ks [recV xs, recV ys] c2 k2 i ps.length (.lst .ow [.int 0, .non]) [recV g0] (by simp) (recV xs) (.int pk) rfl rfl ys h2 pos most
  have l1 : loopJ wId 4 2 (gN 9) B__law_refuses_1 2 [foV ps ks, .lst .fz (ps.map pP), .lst .fz (ks.map .str), .lst .io [.int c1, .int (k + 1)], .lst .io [recV xs, recV ys], .int ps.length, .int i, .lst .ow [.int 0, .non], .lst .ow [], .emp, .emp, .emp, .emp] =
      .ok .nx [foV ps ks, .lst .fz (ps.map pP), .lst .fz (ks.map .str), .lst .io [.int c3, .int k3], .lst .io [recV xs, recV ys], .int ps.length, .int i, .lst .ow [.int 0, .non], .lst .ow [recV g0, recV g1], recV ys, .int pk3, .emp, .emp] := by
    simp only [List.nil_append] at b1
    simp only [List.cons_append, List.nil_append] at b2
    have n1 : nowAt 4 2 (2 - (1 + 1)) [foV ps ks, .lst .fz (ps.map pP), .lst .fz (ks.map .str), .lst .io [.int c1, .int (k + 1)], .lst .io [recV xs, recV ys], .int ps.length, .int i, .lst .ow [.int 0, .non], .lst .ow [], .emp, .emp, .emp, .emp] = some (recV xs) := rfl
    have n2 : nowAt 4 2 (2 - (0 + 1)) [foV ps ks, .lst .fz (ps.map pP), .lst .fz (ks.map .str), .lst .io [.int c2, .int k2], .lst .io [recV xs, recV ys], .int ps.length, .int i, .lst .ow [.int 0, .non], .lst .ow [recV g0], recV xs, .int pk, .emp, .emp] = some (recV ys) := rfl
    have n3 : okAt 4 2 [foV ps ks, .lst .fz (ps.map pP), .lst .fz (ks.map .str), .lst .io [.int c3, .int k3], .lst .io [recV xs, recV ys], .int ps.length, .int i, .lst .ow [.int 0, .non], .lst .ow [recV g0, recV g1], recV ys, .int pk3, .emp, .emp] = true := rfl
    have a1' : gN 9 (wId (2 - (1 + 1)) (recV xs)) _ = _ := a1
    have a2' : gN 9 (wId (2 - (0 + 1)) (recV ys)) _ = _ := a2
    rw [show (2 : Nat) = 1 + 1 from rfl] at *
    simp only [loopJ, n1, a1', b1, n2, a2', b2, n3, if_true]
  obtain ⟨b, c4, e4, b0, b1'⟩ := p_take c3 k3 2 .io (by decide) (by omega) (by omega)
  obtain ⟨q, c5, e5, q0, q1⟩ := p_take c4 (k3 + 1) 4 .io (by decide) (by omega) (by omega)
  have key : ∃ f : Int, L2.atI [PV.int (-1), PV.int ps.length, PV.int ((ps.length : Int) + 100000000000000000000), PV.int (-100000000000000000000)] q = some (.int f) ∧ (f < 0 ∨ (ps.length : Int) ≤ f) ∧ f.natAbs < 2 ^ 100 := by
    have hq : q = 0 ∨ q = 1 ∨ q = 2 ∨ q = 3 := by omega
    rcases hq with rfl | rfl | rfl | rfl
    · exact ⟨-1, rfl, .inl (by omega), by decide⟩
    · exact ⟨ps.length, rfl, .inr (by omega), by omega⟩
    · exact ⟨(ps.length : Int) + 100000000000000000000, rfl, .inr (by omega), by omega⟩
    · exact ⟨-100000000000000000000, rfl, .inl (by omega), by decide⟩
  obtain ⟨f, kf, f1, f2⟩ := key
  have lp : ∀ (tp s9 s10 s11 : PV), s11.isIo = false → loop (gN 12) B__law_refuses_2 (rgL 0 2) _ = .ok .nx _ := fun tp s9 s10 s11 h11 => end2 ps ks tp (.lst .io [recV xs, recV ys]) (.lst .ow [.int 1, .int f]) (.lst .ow [recV g0, recV g1]) s9 s10 s11 _ ps.length f h11 rfl fun s11 t h => ref2_place ps ks tp _ s9 s10 s11 ps.length f t g0 g1 h f1 f2
  unfold F__law_refuses W__law_refuses
  by_cases hg0 : g0.length = ps.length
  · have w0 : g0 = xs := d1.resolve_right (fun z => z hg0)
    subst w0
    by_cases hg1 : g1.length = ps.length
    · have w1 : g1 = ys := d2.resolve_right (fun z => z hg1)
      subst w1
      have cm := p_merged ps ks g0 g1 ok h1 h2
      have lo : ∀ (tp s9 s10 s11 : PV), s11.isIo = false → loop (gN 12) B__law_refuses_2 (rgL 0 2) _ = .ok .nx _ := fun tp s9 s10 s11 h11 => end2 ps ks tp (.lst .io [recV g0, recV g1]) (.lst .ow [.int 0, .non]) (.lst .ow [recV g0, recV g1]) s9 s10 s11 _ ps.length i h11 rfl fun s11 t h => ref2_ok ps ks tp s9 s10 s11 ps.length i t g0 g1 h ok hi h1 h2
      by_cases hb : b = 1
      · refine ⟨c5, k3 + 1 + 1, ?_⟩
        simp [u_sSeq, u_sE, u_sSet, u_sRet, u_sRetN, u_sIf, u_sSub, u_sNx, u_sBk, u_sCt, u_eN, u_eC, u_eBin, u_eUn, u_eFn, u_eNot, u_eAnd, u_eOr, u_eIf, u_eTup, u_eLst, u_aCons, u_aNil, u_tB, u_tE, u_tNot, u_tAnd, u_tOr, keep, take, takes, hv, PV.toIo, PV.reFl, ofO, ofB, ofL, blOf, oIx, oAdd, oSub, oMul, oMod, oDiv, oPow, oI, oB, oGe, oLt, oLe, oGt, oInt, exitF, exit1, u_eCall, okArgs, back, isSl, runF, lim, nth, oLen, oAbs, u_eMu, muEnd, uAppend, uPop1, uInsert, u_eRg1, oRg, u_sFor, u_iRg1, u_iRg2, u_iSeq, ofX, seqOf, u_eCh, u_eSl, u_eMeth, u_eProp, u_eMake, u_eObj, u_gT, u_sAsg, u_sAt, u_tYesV, u_eLc, u_eMt, u_sRaise1, u_iEnumV, u_iZipV, u_eKd, u_eIsE, u_eFE, e0, sForN, l1, hg0, hg1, cm, tru, e4, hb, e5, kf, h1, h2]
        have z := lp (.lst .io [.int c5, .int (k3 + 1 + 1)]) (recV g1) (.int pk3) (.lst .ow [.int 0, recV (mg ps ks g0 g1), .bl true]) rfl
        simp only [recV] at z ⊢
        rw [z]
        simp
      · refine ⟨c4, k3 + 1, ?_⟩
        simp [u_sSeq, u_sE, u_sSet, u_sRet, u_sRetN, u_sIf, u_sSub, u_sNx, u_sBk, u_sCt, u_eN, u_eC, u_eBin, u_eUn, u_eFn, u_eNot, u_eAnd, u_eOr, u_eIf, u_eTup, u_eLst, u_aCons, u_aNil, u_tB, u_tE, u_tNot, u_tAnd, u_tOr, keep, take, takes, hv, PV.toIo, PV.reFl, ofO, ofB, ofL, blOf, oIx, oAdd, oSub, oMul, oMod, oDiv, oPow, oI, oB, oGe, oLt, oLe, oGt, oInt, exitF, exit1, u_eCall, okArgs, back, isSl, runF, lim, nth, oLen, oAbs, u_eMu, muEnd, uAppend, uPop1, uInsert, u_eRg1, oRg, u_sFor, u_iRg1, u_iRg2, u_iSeq, ofX, seqOf, u_eCh, u_eSl, u_eMeth, u_eProp, u_eMake, u_eObj, u_gT, u_sAsg, u_sAt, u_tYesV, u_eLc, u_eMt, u_sRaise1, u_iEnumV, u_iZipV, u_eKd, u_eIsE, u_eFE, e0, sForN, l1, hg0, hg1, cm, tru, e4, hb, h1, h2]
        have z := lo (.lst .io [.int c4, .int (k3 + 1)]) (recV g1) (.int pk3) (.lst .ow [.int 0, recV (mg ps ks g0 g1), .bl true]) rfl
        simp only [recV] at z ⊢
        rw [z]
        simp
    · have hg1' : ¬ (g1.length : Int) = ps.length := by omega
      have cm := p_merged_bad ps ks g0 g1 g1 (p_call_bad2 ps ks g0 g1 hg0 hg1)
      have sr := p_sameR g1 (by omega)
      have lo : ∀ (tp s9 s10 s11 : PV), s11.isIo = false → loop (gN 12) B__law_refuses_2 (rgL 0 2) _ = .ok .nx _ := fun tp s9 s10 s11 h11 => end2 ps ks tp (.lst .io [recV g0, recV ys]) (.lst .ow [.int 2, recV g1]) (.lst .ow [recV g0, recV g1]) s9 s10 s11 _ ps.length i h11 rfl fun s11 t h => ref2_rec ps ks tp _ s9 s10 s11 ps.length i t g0 g1 g1 h (by omega) (p_unl_bad2 ps ks i g0 g1 hi hg0 hg1)
      by_cases hb : b = 1
      · refine ⟨c5, k3 + 1 + 1, ?_⟩
        simp [u_sSeq, u_sE, u_sSet, u_sRet, u_sRetN, u_sIf, u_sSub, u_sNx, u_sBk, u_sCt, u_eN, u_eC, u_eBin, u_eUn, u_eFn, u_eNot, u_eAnd, u_eOr, u_eIf, u_eTup, u_eLst, u_aCons, u_aNil, u_tB, u_tE, u_tNot, u_tAnd, u_tOr, keep, take, takes, hv, PV.toIo, PV.reFl, ofO, ofB, ofL, blOf, oIx, oAdd, oSub, oMul, oMod, oDiv, oPow, oI, oB, oGe, oLt, oLe, oGt, oInt, exitF, exit1, u_eCall, okArgs, back, isSl, runF, lim, nth, oLen, oAbs, u_eMu, muEnd, uAppend, uPop1, uInsert, u_eRg1, oRg, u_sFor, u_iRg1, u_iRg2, u_iSeq, ofX, seqOf, u_eCh, u_eSl, u_eMeth, u_eProp, u_eMake, u_eObj, u_gT, u_sAsg, u_sAt, u_tYesV, u_eLc, u_eMt, u_sRaise1, u_iEnumV, u_iZipV, u_eKd, u_eIsE, u_eFE, e0, sForN, l1, hg0, hg1, hg1', cm, sr, tru, e4, hb, e5, kf, h1, h2]
        have z := lp (.lst .io [.int c5, .int (k3 + 1 + 1)]) (recV ys) (.int pk3) (.lst .ow [.int 2, recV g1, .bl true]) rfl
        simp only [recV] at z ⊢
        rw [z]
        simp
      · refine ⟨c4, k3 + 1, ?_⟩
        simp [u_sSeq, u_sE, u_sSet, u_sRet, u_sRetN, u_sIf, u_sSub, u_sNx, u_sBk, u_sCt, u_eN, u_eC, u_eBin, u_eUn, u_eFn, u_eNot, u_eAnd, u_eOr, u_eIf, u_eTup, u_eLst, u_aCons, u_aNil, u_tB, u_tE, u_tNot, u_tAnd, u_tOr, keep, take, takes, hv, PV.toIo, PV.reFl, ofO, ofB, ofL, blOf, oIx, oAdd, oSub, oMul, oMod, oDiv, oPow, oI, oB, oGe, oLt, oLe, oGt, oInt, exitF, exit1, u_eCall, okArgs, back, isSl, runF, lim, nth, oLen, oAbs, u_eMu, muEnd, uAppend, uPop1, uInsert, u_eRg1, oRg, u_sFor, u_iRg1, u_iRg2, u_iSeq, ofX, seqOf, u_eCh, u_eSl, u_eMeth, u_eProp, u_eMake, u_eObj, u_gT, u_sAsg, u_sAt, u_tYesV, u_eLc, u_eMt, u_sRaise1, u_iEnumV, u_iZipV, u_eKd, u_eIsE, u_eFE, e0, sForN, l1, hg0, hg1, hg1', cm, sr, tru, e4, hb, h1, h2]
        have z := lo (.lst .io [.int c4, .int (k3 + 1)]) (recV ys) (.int pk3) (.lst .ow [.int 2, recV g1, .bl true]) rfl
        simp only [recV] at z ⊢
        rw [z]
        simp
  · have hg0' : ¬ (g0.length : Int) = ps.length := by omega
    have cm := p_merged_bad ps ks g0 g1 g0 (p_call_bad1 ps ks g0 g1 hg0)
    have sr := p_sameR g0 (by omega)
    have lo : ∀ (tp s9 s10 s11 : PV), s11.isIo = false → loop (gN 12) B__law_refuses_2 (rgL 0 2) _ = .ok .nx _ := fun tp s9 s10 s11 h11 => end2 ps ks tp (.lst .io [recV xs, recV ys]) (.lst .ow [.int 2, recV g0]) (.lst .ow [recV g0, recV g1]) s9 s10 s11 _ ps.length i h11 rfl fun s11 t h => ref2_rec ps ks tp _ s9 s10 s11 ps.length i t g0 g1 g0 h (by omega) (p_unl_bad1 ps ks i g0 g1 hi hg0)
    by_cases hg1 : g1.length = ps.length
    · by_cases hb : b = 1
      · refine ⟨c5, k3 + 1 + 1, ?_⟩
        simp [u_sSeq, u_sE, u_sSet, u_sRet, u_sRetN, u_sIf, u_sSub, u_sNx, u_sBk, u_sCt, u_eN, u_eC, u_eBin, u_eUn, u_eFn, u_eNot, u_eAnd, u_eOr, u_eIf, u_eTup, u_eLst, u_aCons, u_aNil, u_tB, u_tE, u_tNot, u_tAnd, u_tOr, keep, take, takes, hv, PV.toIo, PV.reFl, ofO, ofB, ofL, blOf, oIx, oAdd, oSub, oMul, oMod, oDiv, oPow, oI, oB, oGe, oLt, oLe, oGt, oInt, exitF, exit1, u_eCall, okArgs, back, isSl, runF, lim, nth, oLen, oAbs, u_eMu, muEnd, uAppend, uPop1, uInsert, u_eRg1, oRg, u_sFor, u_iRg1, u_iRg2, u_iSeq, ofX, seqOf, u_eCh, u_eSl, u_eMeth, u_eProp, u_eMake, u_eObj, u_gT, u_sAsg, u_sAt, u_tYesV, u_eLc, u_eMt, u_sRaise1, u_iEnumV, u_iZipV, u_eKd, u_eIsE, u_eFE, e0, sForN, l1, hg0, hg0', hg1, cm, sr, tru, e4, hb, e5, kf, h1, h2]
        have z := lp (.lst .io [.int c5, .int (k3 + 1 + 1)]) (recV ys) (.int pk3) (.lst .ow [.int 2, recV g0, .bl true]) rfl
        simp only [recV] at z ⊢
        rw [z]
        simp
      · refine ⟨c4, k3 + 1, ?_⟩
        simp [u_sSeq, u_sE, u_sSet, u_sRet, u_sRetN, u_sIf, u_sSub, u_sNx, u_sBk, u_sCt, u_eN, u_eC, u_eBin, u_eUn, u_eFn, u_eNot, u_eAnd, u_eOr, u_eIf, u_eTup, u_eLst, u_aCons, u_aNil, u_tB, u_tE, u_tNot, u_tAnd, u_tOr, keep, take, takes, hv, PV.toIo, PV.reFl, ofO, ofB, ofL, blOf, oIx, oAdd, oSub, oMul, oMod, oDiv, oPow, oI, oB, oGe, oLt, oLe, oGt, oInt, exitF, exit1, u_eCall, okArgs, back, isSl, runF, lim, nth, oLen, oAbs, u_eMu, muEnd, uAppend, uPop1, uInsert, u_eRg1, oRg, u_sFor, u_iRg1, u_iRg2, u_iSeq, ofX, seqOf, u_eCh, u_eSl, u_eMeth, u_eProp, u_eMake, u_eObj, u_gT, u_sAsg, u_sAt, u_tYesV, u_eLc, u_eMt, u_sRaise1, u_iEnumV, u_iZipV, u_eKd, u_eIsE, u_eFE, e0, sForN, l1, hg0, hg0', hg1, cm, sr, tru, e4, hb, h1, h2]
        have z := lo (.lst .io [.int c4, .int (k3 + 1)]) (recV ys) (.int pk3) (.lst .ow [.int 2, recV g0, .bl true]) rfl
        simp only [recV] at z ⊢
        rw [z]
        simp
    · have hg1' : ¬ (g1.length : Int) = ps.length := by omega
      by_cases hb : b = 1
      · refine ⟨c5, k3 + 1 + 1, ?_⟩
        simp [u_sSeq, u_sE, u_sSet, u_sRet, u_sRetN, u_sIf, u_sSub, u_sNx, u_sBk, u_sCt, u_eN, u_eC, u_eBin, u_eUn, u_eFn, u_eNot, u_eAnd, u_eOr, u_eIf, u_eTup, u_eLst, u_aCons, u_aNil, u_tB, u_tE, u_tNot, u_tAnd, u_tOr, keep, take, takes, hv, PV.toIo, PV.reFl, ofO, ofB, ofL, blOf, oIx, oAdd, oSub, oMul, oMod, oDiv, oPow, oI, oB, oGe, oLt, oLe, oGt, oInt, exitF, exit1, u_eCall, okArgs, back, isSl, runF, lim, nth, oLen, oAbs, u_eMu, muEnd, uAppend, uPop1, uInsert, u_eRg1, oRg, u_sFor, u_iRg1, u_iRg2, u_iSeq, ofX, seqOf, u_eCh, u_eSl, u_eMeth, u_eProp, u_eMake, u_eObj, u_gT, u_sAsg, u_sAt, u_tYesV, u_eLc, u_eMt, u_sRaise1, u_iEnumV, u_iZipV, u_eKd, u_eIsE, u_eFE, e0, sForN, l1, hg0, hg0', hg1, hg1', cm, sr, tru, e4, hb, e5, kf, h1, h2]
        have z := lp (.lst .io [.int c5, .int (k3 + 1 + 1)]) (recV ys) (.int pk3) (.lst .ow [.int 2, recV g0, .bl true]) rfl
        simp only [recV] at z ⊢
        rw [z]
        simp
      · refine ⟨c4, k3 + 1, ?_⟩
        simp [u_sSeq, u_sE, u_sSet, u_sRet, u_sRetN, u_sIf, u_sSub, u_sNx, u_sBk, u_sCt, u_eN, u_eC, u_eBin, u_eUn, u_eFn, u_eNot, u_eAnd, u_eOr, u_eIf, u_eTup, u_eLst, u_aCons, u_aNil, u_tB, u_tE, u_tNot, u_tAnd, u_tOr, keep, take, takes, hv, PV.toIo, PV.reFl, ofO, ofB, ofL, blOf, oIx, oAdd, oSub, oMul, oMod, oDiv, oPow, oI, oB, oGe, oLt, oLe, oGt, oInt, exitF, exit1, u_eCall, okArgs, back, isSl, runF, lim, nth, oLen, oAbs, u_eMu, muEnd, uAppend, uPop1, uInsert, u_eRg1, oRg, u_sFor, u_iRg1, u_iRg2, u_iSeq, ofX, seqOf, u_eCh, u_eSl, u_eMeth, u_eProp, u_eMake, u_eObj, u_gT, u_sAsg, u_sAt, u_tYesV, u_eLc, u_eMt, u_sRaise1, u_iEnumV, u_iZipV, u_eKd, u_eIsE, u_eFE, e0, sForN, l1, hg0, hg0', hg1, hg1', cm, sr, tru, e4, hb, h1, h2]
        have z := lo (.lst .io [.int c4, .int (k3 + 1)]) (recV ys) (.int pk3) (.lst .ow [.int 2, recV g0, .bl true]) rfl
        simp only [recV] at z ⊢
        rw [z]
        simp
end Law

set_option linter.all false
set_option maxRecDepth 100000
namespace Law
open VL PySem My
def bt (k : Str) (a b : Int) : Bool := if k = "up" then decide (b < a) else if k = "down" then decide (a < b) else false
theorem p_better (k : Str) (a b : Int) (h : word4 k) : F_better [.str k, .int a, .int b] = .ok (.bl (bt k a b)) [.str k, .int a, .int b] := by
  unfold F_better W_better bt
  rcases h with rfl | rfl | rfl | rfl <;> simp [u_sSeq, u_sE, u_sSet, u_sRet, u_sRetN, u_sIf, u_sSub, u_sNx, u_sBk, u_sCt, u_eN, u_eC, u_eBin, u_eUn, u_eFn, u_eNot, u_eAnd, u_eOr, u_eIf, u_eTup, u_eLst, u_aCons, u_aNil, u_tB, u_tE, u_tNot, u_tAnd, u_tOr, keep, take, takes, hv, PV.toIo, PV.reFl, ofO, ofB, ofL, blOf, oIx, oAdd, oSub, oMul, oMod, oDiv, oPow, oI, oB, oGe, oLt, oLe, oGt, oInt, exitF, exit1, u_eCall, okArgs, back, isSl, runF, lim, nth, oLen, oAbs, u_eMu, muEnd, uAppend, uPop1, uInsert, u_eRg1, oRg, u_sFor, u_iRg1, u_iRg2, u_iSeq, ofX, seqOf, u_eCh, u_eSl, u_eMeth, u_eProp, u_eMake, u_eObj, u_gT, u_sAsg, u_sAt, u_tYesV, u_eLc, u_eMt, u_sRaise1, u_iEnumV, u_iZipV, u_eKd, u_eIsE, u_eFE, oEq_str]
def rs (k : Str) (a b : Int) : Int := if k = "down" then a - b else a + b
theorem p_raised (k : Str) (a b : Int) (h : word4 k) : F_raised [.str k, .int a, .int b] = .ok (.int (rs k a b)) [.str k, .int a, .int b] := by
  unfold F_raised W_raised rs
  rcases h with rfl | rfl | rfl | rfl <;> simp [u_sSeq, u_sE, u_sSet, u_sRet, u_sRetN, u_sIf, u_sSub, u_sNx, u_sBk, u_sCt, u_eN, u_eC, u_eBin, u_eUn, u_eFn, u_eNot, u_eAnd, u_eOr, u_eIf, u_eTup, u_eLst, u_aCons, u_aNil, u_tB, u_tE, u_tNot, u_tAnd, u_tOr, keep, take, takes, hv, PV.toIo, PV.reFl, ofO, ofB, ofL, blOf, oIx, oAdd, oSub, oMul, oMod, oDiv, oPow, oI, oB, oGe, oLt, oLe, oGt, oInt, exitF, exit1, u_eCall, okArgs, back, isSl, runF, lim, nth, oLen, oAbs, u_eMu, muEnd, uAppend, uPop1, uInsert, u_eRg1, oRg, u_sFor, u_iRg1, u_iRg2, u_iSeq, ofX, seqOf, u_eCh, u_eSl, u_eMeth, u_eProp, u_eMake, u_eObj, u_gT, u_sAsg, u_sAt, u_tYesV, u_eLc, u_eMt, u_sRaise1, u_iEnumV, u_iZipV, u_eKd, u_eIsE, u_eFE, oEq_str]
theorem val1 (T s7 s8 : PV) (a b m : Int) (k : Str) (p : Bool) (h7 : s7.isIo = false) : loop (gN 7) B__law_values_1 (rgL 0 2) [T, .int a, .int b, .int m, .str k, .lst .ow [.bl p, .bl false], .lst .ow [.bl p, .bl false], s7, s8] = .ok .nx [T, .int a, .int b, .int m, .str k, .lst .ow [.bl p, .bl false], .lst .ow [.bl p, .bl false], .int 1, s8] := by
  rw [rg2]
  refine loop2 (gN_ok h7) (ρ2 := [T, .int a, .int b, .int m, .str k, .lst .ow [.bl p, .bl false], .lst .ow [.bl p, .bl false], .int 0, s8]) ?_ (gN_ok rfl) ?_
  · unfold B__law_values_1
    simp [u_sSeq, u_sE, u_sSet, u_sRet, u_sRetN, u_sIf, u_sSub, u_sNx, u_sBk, u_sCt, u_eN, u_eC, u_eBin, u_eUn, u_eFn, u_eNot, u_eAnd, u_eOr, u_eIf, u_eTup, u_eLst, u_aCons, u_aNil, u_tB, u_tE, u_tNot, u_tAnd, u_tOr, keep, take, takes, hv, PV.toIo, PV.reFl, ofO, ofB, ofL, blOf, oIx, oAdd, oSub, oMul, oMod, oDiv, oPow, oI, oB, oGe, oLt, oLe, oGt, oInt, exitF, exit1, u_eCall, okArgs, back, isSl, runF, lim, nth, oLen, oAbs, u_eMu, muEnd, uAppend, uPop1, uInsert, u_eRg1, oRg, u_sFor, u_iRg1, u_iRg2, u_iSeq, ofX, seqOf, u_eCh, u_eSl, u_eMeth, u_eProp, u_eMake, u_eObj, u_gT, u_sAsg, u_sAt, u_tYesV, u_eLc, u_eMt, u_sRaise1, u_iEnumV, u_iZipV, u_eKd, u_eIsE, u_eFE, oIsi, tyN, tru]
  · unfold B__law_values_1
    simp [u_sSeq, u_sE, u_sSet, u_sRet, u_sRetN, u_sIf, u_sSub, u_sNx, u_sBk, u_sCt, u_eN, u_eC, u_eBin, u_eUn, u_eFn, u_eNot, u_eAnd, u_eOr, u_eIf, u_eTup, u_eLst, u_aCons, u_aNil, u_tB, u_tE, u_tNot, u_tAnd, u_tOr, keep, take, takes, hv, PV.toIo, PV.reFl, ofO, ofB, ofL, blOf, oIx, oAdd, oSub, oMul, oMod, oDiv, oPow, oI, oB, oGe, oLt, oLe, oGt, oInt, exitF, exit1, u_eCall, okArgs, back, isSl, runF, lim, nth, oLen, oAbs, u_eMu, muEnd, uAppend, uPop1, uInsert, u_eRg1, oRg, u_sFor, u_iRg1, u_iRg2, u_iSeq, ofX, seqOf, u_eCh, u_eSl, u_eMeth, u_eProp, u_eMake, u_eObj, u_gT, u_sAsg, u_sAt, u_tYesV, u_eLc, u_eMt, u_sRaise1, u_iEnumV, u_iZipV, u_eKd, u_eIsE, u_eFE, oIsi, tyN, tru]
theorem val2 (T s5 s6 s7 s8 : PV) (a b m : Int) (k : Str) (h : word4 k) (h5 : s5.isIo = false) (h6 : s6.isIo = false) (h7 : s7.isIo = false) (h8 : s8.isIo = false) : ∃ s5' s6' s7' s8' : PV, s5'.isIo = false ∧ s6'.isIo = false ∧ s7'.isIo = false ∧ s8'.isIo = false ∧
    B__law_values_2 [T, .int a, .int b, .int m, .str k, s5, s6, s7, s8] = .ok .nx [T, .int a, .int b, .int m, .str k, s5', s6', s7', s8'] := by
  have hw := h
  have e1 := p_better k a b h
  have e2 := p_better k a a h
  have z : bt k a a = false := by unfold bt; split <;> (try split) <;> simp
  rw [z] at e2
  have e3 := val1 T s7 s8 a b m k (bt k a b) h7
  have e4 := p_raised k a m h
  have e5 := p_sameL [some (rs k a m)] (by simp)
  simp only [List.map_cons, List.map_nil] at e5
  refine ⟨.lst .ow [.bl (bt k a b), .bl false], .lst .ow [.bl (bt k a b), .bl false], .int 1, .int (rs k a m), rfl, rfl, rfl, rfl, ?_⟩
  have d1 : (eOr (eAnd (eBin (oEq false) (eN 4) (eC (.str "up"))) (eBin oGt (eN 1) (eN 2))) (eAnd (eBin (oEq false) (eN 4) (eC (.str "down"))) (eBin oLt (eN 1) (eN 2)))) [T, .int a, .int b, .int m, .str k, s5, s6, s7, s8] = .ok (.tm (.bl (bt k a b))) [T, .int a, .int b, .int m, .str k, s5, s6, s7, s8] := by
    unfold bt
    by_cases q1 : b < a
    · have q2 : ¬ a < b := by omega
      rcases h with rfl | rfl | rfl | rfl <;> simp [u_sSeq, u_sE, u_sSet, u_sRet, u_sRetN, u_sIf, u_sSub, u_sNx, u_sBk, u_sCt, u_eN, u_eC, u_eBin, u_eUn, u_eFn, u_eNot, u_eAnd, u_eOr, u_eIf, u_eTup, u_eLst, u_aCons, u_aNil, u_tB, u_tE, u_tNot, u_tAnd, u_tOr, keep, take, takes, hv, PV.toIo, PV.reFl, ofO, ofB, ofL, blOf, oIx, oAdd, oSub, oMul, oMod, oDiv, oPow, oI, oB, oGe, oLt, oLe, oGt, oInt, exitF, exit1, u_eCall, okArgs, back, isSl, runF, lim, nth, oLen, oAbs, u_eMu, muEnd, uAppend, uPop1, uInsert, u_eRg1, oRg, u_sFor, u_iRg1, u_iRg2, u_iSeq, ofX, seqOf, u_eCh, u_eSl, u_eMeth, u_eProp, u_eMake, u_eObj, u_gT, u_sAsg, u_sAt, u_tYesV, u_eLc, u_eMt, u_sRaise1, u_iEnumV, u_iZipV, u_eKd, u_eIsE, u_eFE, oEq_str, tru, q1, q2]
    · by_cases q2 : a < b
      · rcases h with rfl | rfl | rfl | rfl <;> simp [u_sSeq, u_sE, u_sSet, u_sRet, u_sRetN, u_sIf, u_sSub, u_sNx, u_sBk, u_sCt, u_eN, u_eC, u_eBin, u_eUn, u_eFn, u_eNot, u_eAnd, u_eOr, u_eIf, u_eTup, u_eLst, u_aCons, u_aNil, u_tB, u_tE, u_tNot, u_tAnd, u_tOr, keep, take, takes, hv, PV.toIo, PV.reFl, ofO, ofB, ofL, blOf, oIx, oAdd, oSub, oMul, oMod, oDiv, oPow, oI, oB, oGe, oLt, oLe, oGt, oInt, exitF, exit1, u_eCall, okArgs, back, isSl, runF, lim, nth, oLen, oAbs, u_eMu, muEnd, uAppend, uPop1, uInsert, u_eRg1, oRg, u_sFor, u_iRg1, u_iRg2, u_iSeq, ofX, seqOf, u_eCh, u_eSl, u_eMeth, u_eProp, u_eMake, u_eObj, u_gT, u_sAsg, u_sAt, u_tYesV, u_eLc, u_eMt, u_sRaise1, u_iEnumV, u_iZipV, u_eKd, u_eIsE, u_eFE, oEq_str, tru, q1, q2]
      · rcases h with rfl | rfl | rfl | rfl <;> simp [u_sSeq, u_sE, u_sSet, u_sRet, u_sRetN, u_sIf, u_sSub, u_sNx, u_sBk, u_sCt, u_eN, u_eC, u_eBin, u_eUn, u_eFn, u_eNot, u_eAnd, u_eOr, u_eIf, u_eTup, u_eLst, u_aCons, u_aNil, u_tB, u_tE, u_tNot, u_tAnd, u_tOr, keep, take, takes, hv, PV.toIo, PV.reFl, ofO, ofB, ofL, blOf, oIx, oAdd, oSub, oMul, oMod, oDiv, oPow, oI, oB, oGe, oLt, oLe, oGt, oInt, exitF, exit1, u_eCall, okArgs, back, isSl, runF, lim, nth, oLen, oAbs, u_eMu, muEnd, uAppend, uPop1, uInsert, u_eRg1, oRg, u_sFor, u_iRg1, u_iRg2, u_iSeq, ofX, seqOf, u_eCh, u_eSl, u_eMeth, u_eProp, u_eMake, u_eObj, u_gT, u_sAsg, u_sAt, u_tYesV, u_eLc, u_eMt, u_sRaise1, u_iEnumV, u_iZipV, u_eKd, u_eIsE, u_eFE, oEq_str, tru, q1, q2]
  have st : sSet 5 (eLst (aCons (eOr (eAnd (eBin (oEq false) (eN 4) (eC (.str "up"))) (eBin oGt (eN 1) (eN 2))) (eAnd (eBin (oEq false) (eN 4) (eC (.str "down"))) (eBin oLt (eN 1) (eN 2)))) (aCons (eC (.bl false)) aNil))) [T, .int a, .int b, .int m, .str k, s5, s6, s7, s8] = .ok .nx [T, .int a, .int b, .int m, .str k, .lst .ow [.bl (bt k a b), .bl false], s6, s7, s8] := by
    generalize (eOr (eAnd (eBin (oEq false) (eN 4) (eC (.str "up"))) (eBin oGt (eN 1) (eN 2))) (eAnd (eBin (oEq false) (eN 4) (eC (.str "down"))) (eBin oLt (eN 1) (eN 2)))) = W at d1
    simp [u_sSeq, u_sE, u_sSet, u_sRet, u_sRetN, u_sIf, u_sSub, u_sNx, u_sBk, u_sCt, u_eN, u_eC, u_eBin, u_eUn, u_eFn, u_eNot, u_eAnd, u_eOr, u_eIf, u_eTup, u_eLst, u_aCons, u_aNil, u_tB, u_tE, u_tNot, u_tAnd, u_tOr, keep, take, takes, hv, PV.toIo, PV.reFl, ofO, ofB, ofL, blOf, oIx, oAdd, oSub, oMul, oMod, oDiv, oPow, oI, oB, oGe, oLt, oLe, oGt, oInt, exitF, exit1, u_eCall, okArgs, back, isSl, runF, lim, nth, oLen, oAbs, u_eMu, muEnd, uAppend, uPop1, uInsert, u_eRg1, oRg, u_sFor, u_iRg1, u_iRg2, u_iSeq, ofX, seqOf, u_eCh, u_eSl, u_eMeth, u_eProp, u_eMake, u_eObj, u_gT, u_sAsg, u_sAt, u_tYesV, u_eLc, u_eMt, u_sRaise1, u_iEnumV, u_iZipV, u_eKd, u_eIsE, u_eFE, d1, h5]
  unfold B__law_values_2
  rw [u_sSeq, st]
  simp only
  have r : rs k a m = if k = "down" then a - m else a + m := rfl
  rcases h with rfl | rfl | rfl | rfl
  all_goals
    simp at r
    simp [u_sSeq, u_sE, u_sSet, u_sRet, u_sRetN, u_sIf, u_sSub, u_sNx, u_sBk, u_sCt, u_eN, u_eC, u_eBin, u_eUn, u_eFn, u_eNot, u_eAnd, u_eOr, u_eIf, u_eTup, u_eLst, u_aCons, u_aNil, u_tB, u_tE, u_tNot, u_tAnd, u_tOr, keep, take, takes, hv, PV.toIo, PV.reFl, ofO, ofB, ofL, blOf, oIx, oAdd, oSub, oMul, oMod, oDiv, oPow, oI, oB, oGe, oLt, oLe, oGt, oInt, exitF, exit1, u_eCall, okArgs, back, isSl, runF, lim, nth, oLen, oAbs, u_eMu, muEnd, uAppend, uPop1, uInsert, u_eRg1, oRg, u_sFor, u_iRg1, u_iRg2, u_iSeq, ofX, seqOf, u_eCh, u_eSl, u_eMeth, u_eProp, u_eMake, u_eObj, u_gT, u_sAsg, u_sAt, u_tYesV, u_eLc, u_eMt, u_sRaise1, u_iEnumV, u_iZipV, u_eKd, u_eIsE, u_eFE, e1, e2, e3, h6, h8, oEq_str, e4, r, tru]
    rw [r] at e5
    simp [u_sSeq, u_sE, u_sSet, u_sRet, u_sRetN, u_sIf, u_sSub, u_sNx, u_sBk, u_sCt, u_eN, u_eC, u_eBin, u_eUn, u_eFn, u_eNot, u_eAnd, u_eOr, u_eIf, u_eTup, u_eLst, u_aCons, u_aNil, u_tB, u_tE, u_tNot, u_tAnd, u_tOr, keep, take, takes, hv, PV.toIo, PV.reFl, ofO, ofB, ofL, blOf, oIx, oAdd, oSub, oMul, oMod, oDiv, oPow, oI, oB, oGe, oLt, oLe, oGt, oInt, exitF, exit1, u_eCall, okArgs, back, isSl, runF, lim, nth, oLen, oAbs, u_eMu, muEnd, uAppend, uPop1, uInsert, u_eRg1, oRg, u_sFor, u_iRg1, u_iRg2, u_iSeq, ofX, seqOf, u_eCh, u_eSl, u_eMeth, u_eProp, u_eMake, u_eObj, u_gT, u_sAsg, u_sAt, u_tYesV, u_eLc, u_eMt, u_sRaise1, u_iEnumV, u_iZipV, u_eKd, u_eIsE, u_eFE, e5, tru]
theorem p_values (c k : Int) : ∃ fin, F__law_values [.lst .ow [.int c, .int k]] = .ok (.bl true) fin := by
  obtain ⟨a, c1, k1, e1⟩ := p_value c k 3 (by omega) (by omega) .io (by decide)
  obtain ⟨b, c2, k2, e2⟩ := p_value c1 k1 3 (by omega) (by omega) .io (by decide)
  obtain ⟨m, c3, k3, e3⟩ := p_value c2 k2 3 (by omega) (by omega) .io (by decide)
  obtain ⟨ρ', e, s4, s5, s6, s7, s8, _, _, _, _, _, rfl⟩ := loop_ls (t := gN 4) (f := B__law_values_2) (xs := [.str "up", .str "down", .str "first", .str "last"]) (ρ := [.lst .io [.int c3, .int k3], .int a, .int b, .int m, .emp, .emp, .emp, .emp, .emp])
    (fun i ρ => ∃ s4 s5 s6 s7 s8 : PV, s4.isIo = false ∧ s5.isIo = false ∧ s6.isIo = false ∧ s7.isIo = false ∧ s8.isIo = false ∧ ρ = [.lst .io [.int c3, .int k3], .int a, .int b, .int m, s4, s5, s6, s7, s8]) ⟨_, _, _, _, _, rfl, rfl, rfl, rfl, rfl, rfl⟩ (by
    rintro i x ρ hx ⟨s4, s5, s6, s7, s8, h4, h5, h6, h7, h8, rfl⟩
    have : ∃ k : Str, x = .str k ∧ word4 k := by
      match i, hx with
      | 0, hx => cases hx; exact ⟨_, rfl, .inl rfl⟩
      | 1, hx => cases hx; exact ⟨_, rfl, .inr (.inl rfl)⟩
      | 2, hx => cases hx; exact ⟨_, rfl, .inr (.inr (.inl rfl))⟩
      | 3, hx => cases hx; exact ⟨_, rfl, .inr (.inr (.inr rfl))⟩
      | n + 4, hx => simp at hx
    obtain ⟨k, rfl, w4⟩ := this
    obtain ⟨a5, a6, a7, a8, b5, b6, b7, b8, e⟩ := val2 (.lst .io [.int c3, .int k3]) s5 s6 s7 s8 a b m k w4 h5 h6 h7 h8
    exact ⟨_, _, gN_ok h4, e, _, _, _, _, _, rfl, b5, b6, b7, b8, rfl⟩)
  unfold F__law_values W__law_values
  refine ⟨[.lst .ow [.int c3, .int k3]], ?_⟩
  simp [u_sSeq, u_sE, u_sSet, u_sRet, u_sRetN, u_sIf, u_sSub, u_sNx, u_sBk, u_sCt, u_eN, u_eC, u_eBin, u_eUn, u_eFn, u_eNot, u_eAnd, u_eOr, u_eIf, u_eTup, u_eLst, u_aCons, u_aNil, u_tB, u_tE, u_tNot, u_tAnd, u_tOr, keep, take, takes, hv, PV.toIo, PV.reFl, ofO, ofB, ofL, blOf, oIx, oAdd, oSub, oMul, oMod, oDiv, oPow, oI, oB, oGe, oLt, oLe, oGt, oInt, exitF, exit1, u_eCall, okArgs, back, isSl, runF, lim, nth, oLen, oAbs, u_eMu, muEnd, uAppend, uPop1, uInsert, u_eRg1, oRg, u_sFor, u_iRg1, u_iRg2, u_iSeq, ofX, seqOf, u_eCh, u_eSl, u_eMeth, u_eProp, u_eMake, u_eObj, u_gT, u_sAsg, u_sAt, u_tYesV, u_eLc, u_eMt, u_sRaise1, u_iEnumV, u_iZipV, u_eKd, u_eIsE, u_eFE, e1, e2, e3, e]
end Law

set_option linter.all false
set_option maxRecDepth 100000
namespace Law
open VL PySem My
theorem lawA (ns : List Int) : ∃ (c k : Int) (n : Nat), 1 ≤ n ∧ n ≤ 8 ∧ ∀ K : M Fw, (sSeq (sSet 1 (eCall F__law_tape (aCons (eN 0) (aCons (eC (.int 0)) aNil))))
    (sSeq (sSet 2 (eBin oAdd (eC (.int 1)) (eCall F__law_take (aCons (eN 1) (aCons (eC (.int 6)) aNil)))))
    (sSeq (sIf (tB (eBin (oEq false) (eCall F__law_take (aCons (eN 1) (aCons (eC (.int 8)) aNil))) (eC (.int 0)))) (sSet 2 (eBin oAdd (eC (.int 7)) (eCall F__law_take (aCons (eN 1) (aCons (eC (.int 2)) aNil))))) sNx) K)))
      [.scr ns, .emp, .emp, .emp, .emp, .emp, .emp, .emp, .emp, .emp, .emp, .emp, .emp, .emp, .emp, .emp] = K [.scr ns, .lst .ow [.int c, .int k], .int n, .emp, .emp, .emp, .emp, .emp, .emp, .emp, .emp, .emp, .emp, .emp, .emp, .emp] := by
  obtain ⟨c0, e0⟩ := p_tape ns 0 (by omega)
  obtain ⟨r, c1, e1, r0, r1⟩ := p_take c0 0 6 .ow (by decide) (by omega) (by omega)
  obtain ⟨p, c2, e2, p0, p1⟩ := p_take c1 1 8 .ow (by decide) (by omega) (by omega)
  obtain ⟨q, c3, e3, q0, q1⟩ := p_take c2 2 2 .ow (by decide) (by omega) (by omega)
  simp only [Int.zero_add] at e1
  by_cases h : p = 0
  · refine ⟨c3, 3, (7 + q).toNat, by omega, by omega, fun K => ?_⟩
    have hq : (((7 + q).toNat : Nat) : Int) = 7 + q := by omega
    rw [hq]
    simp [u_sSeq, u_sE, u_sSet, u_sRet, u_sRetN, u_sIf, u_sSub, u_sNx, u_sBk, u_sCt, u_eN, u_eC, u_eBin, u_eUn, u_eFn, u_eNot, u_eAnd, u_eOr, u_eIf, u_eTup, u_eLst, u_aCons, u_aNil, u_tB, u_tE, u_tNot, u_tAnd, u_tOr, keep, take, takes, hv, PV.toIo, PV.reFl, ofO, ofB, ofL, blOf, oIx, oAdd, oSub, oMul, oMod, oDiv, oPow, oI, oB, oGe, oLt, oLe, oGt, oInt, exitF, exit1, u_eCall, okArgs, back, isSl, runF, lim, nth, oLen, oAbs, u_eMu, muEnd, uAppend, uPop1, uInsert, u_eRg1, oRg, u_sFor, u_iRg1, u_iRg2, u_iSeq, ofX, seqOf, u_eCh, u_eSl, u_eMeth, u_eProp, u_eMake, u_eObj, u_gT, u_sAsg, u_sAt, u_tYesV, u_eLc, u_eMt, u_sRaise1, u_iEnumV, u_iZipV, u_eKd, u_eIsE, u_eFE, e0, e1, e2, e3, h]
  · refine ⟨c2, 2, (1 + r).toNat, by omega, by omega, fun K => ?_⟩
    have hq : (((1 + r).toNat : Nat) : Int) = 1 + r := by omega
    rw [hq]
    simp [u_sSeq, u_sE, u_sSet, u_sRet, u_sRetN, u_sIf, u_sSub, u_sNx, u_sBk, u_sCt, u_eN, u_eC, u_eBin, u_eUn, u_eFn, u_eNot, u_eAnd, u_eOr, u_eIf, u_eTup, u_eLst, u_aCons, u_aNil, u_tB, u_tE, u_tNot, u_tAnd, u_tOr, keep, take, takes, hv, PV.toIo, PV.reFl, ofO, ofB, ofL, blOf, oIx, oAdd, oSub, oMul, oMod, oDiv, oPow, oI, oB, oGe, oLt, oLe, oGt, oInt, exitF, exit1, u_eCall, okArgs, back, isSl, runF, lim, nth, oLen, oAbs, u_eMu, muEnd, uAppend, uPop1, uInsert, u_eRg1, oRg, u_sFor, u_iRg1, u_iRg2, u_iSeq, ofX, seqOf, u_eCh, u_eSl, u_eMeth, u_eProp, u_eMake, u_eObj, u_gT, u_sAsg, u_sAt, u_tYesV, u_eLc, u_eMt, u_sRaise1, u_iEnumV, u_iZipV, u_eKd, u_eIsE, u_eFE, e0, e1, e2, h]
theorem lawB (ns : List Int) (c k t : Int) (n : Nat) (hn1 : 1 ≤ n) (hn : n ≤ 8) (G : List PV) (hG : G.length < 1000) (s5 : PV) (i5 : s5.isIo = false) (ht : 0 ≤ t) : ∃ (c' k' : Int) (ps : List (Option Nat)) (ks : List Str), FOk ps ks ∧ ps.length = n ∧
    B_law_1 [.scr ns, .lst .ow [.int c, .int k], .int n, .lst .ow G, .int t, s5, .emp, .emp, .emp, .emp, .emp, .emp, .emp, .emp, .emp, .emp] = .ok .nx [.scr ns, .lst .ow [.int c', .int k'], .int n, .lst .ow (G ++ [.lst .fz [.lst .fz (ps.map pP), .lst .fz (ks.map .str)]]), .int t, .lst .fz (ps.map pP), .emp, .emp, .emp, .emp, .emp, .emp, .emp, .emp, .emp, .emp] := by
  obtain ⟨ps, c1, k1, e1, lp, ac⟩ := p_parents c k n hn1 (by omega) .ow (by decide)
  obtain ⟨c5, e2⟩ := p_tape ns (1 + 3 * t) (by omega)
  obtain ⟨ks, c6, k6, e3, kok⟩ := p_kinds c5 0 ps (by omega) .ow (by decide)
  refine ⟨c1, k1, ps, ks, ⟨by omega, by omega, ac, kok⟩, lp, ?_⟩
  have h5 : G.length < 100000 := by omega
  have cm : cMul 3 t = true := cm_l (by decide) (by decide)
  unfold B_law_1
  simp [u_sSeq, u_sE, u_sSet, u_sRet, u_sRetN, u_sIf, u_sSub, u_sNx, u_sBk, u_sCt, u_eN, u_eC, u_eBin, u_eUn, u_eFn, u_eNot, u_eAnd, u_eOr, u_eIf, u_eTup, u_eLst, u_aCons, u_aNil, u_tB, u_tE, u_tNot, u_tAnd, u_tOr, keep, take, takes, hv, PV.toIo, PV.reFl, ofO, ofB, ofL, blOf, oIx, oAdd, oSub, oMul, oMod, oDiv, oPow, oI, oB, oGe, oLt, oLe, oGt, oInt, exitF, exit1, u_eCall, okArgs, back, isSl, runF, lim, nth, oLen, oAbs, u_eMu, muEnd, uAppend, uPop1, uInsert, u_eRg1, oRg, u_sFor, u_iRg1, u_iRg2, u_iSeq, ofX, seqOf, u_eCh, u_eSl, u_eMeth, u_eProp, u_eMake, u_eObj, u_gT, u_sAsg, u_sAt, u_tYesV, u_eLc, u_eMt, u_sRaise1, u_iEnumV, u_iZipV, u_eKd, u_eIsE, u_eFE, e1, i5, e2, e3, h5, cm]
theorem lawD (ps : List (Option Nat)) (ac : Acy ps) (ns : List Int) (c k a : Int) (n : Nat) (lp : ps.length = n) (hn1 : 1 ≤ n) (hn : n ≤ 8) (K0 A1 s4 s5 : PV) (xs ys : List Int) (hx : xs.length = n) (hy : ys.length = n) (a0 : 0 ≤ a) (a1 : a < 6) :
    ∃ (c' k' : Int) (zs : List Int) (s9 s10 s11 : PV), zs.length = n ∧ sIf (tB (eBin oLt (eN 8) (eC (.int 2)))) (sSeq (sSet 9 (eCall F__law_path (aCons (eBin oIx (eBin oIx (eN 3) (eC (.int 0))) (eC (.int 0))) (aCons (eCall F__law_take (aCons (eN 1) (aCons (eN 2) aNil))) aNil))))
    (sSeq (sSet 10 (eFn oList (aCons (eN 7) aNil)))
    (sSeq (sFor (iSeq (eSl (eN 9) none (some (eBin oSub (eFn oLen (aCons (eN 9) aNil)) (eN 8))))) (gN 11) B_law_2)
    (sSet 7 (eFn oTuple (aCons (eN 10) aNil)))))) sNx
      [.scr ns, .lst .ow [.int c, .int k], .int n, .lst .ow [.lst .fz [.lst .fz (ps.map pP), K0], A1], s4, s5, recV xs, recV ys, .int a, .emp, .emp, .emp, .emp, .emp, .emp, .emp] =
      .ok .nx [.scr ns, .lst .ow [.int c', .int k'], .int n, .lst .ow [.lst .fz [.lst .fz (ps.map pP), K0], A1], s4, s5, recV xs, recV zs, .int a, s9, s10, s11, .emp, .emp, .emp, .emp] := by
  by_cases h : a < 2
  · obtain ⟨i0, c1, e0, p0, p1⟩ := p_take c k n .ow (by decide) (by omega) (by omega)
    obtain ⟨i, rfl⟩ : ∃ i : Nat, i0 = i := ⟨i0.toNat, by omega⟩
    have hi : i < ps.length := by omega
    have e1 := p_path ps i ac (by omega) hi
    obtain ⟨js, ej, hj⟩ : ∃ js : List Nat, cutL ((path ps i).map nP) none (some ((path ps i).length - a)) = js.map nP ∧ ∀ j ∈ js, j < n := by
      refine ⟨((path ps i).drop (HT.sIx ((path ps i).map nP).length 0 none)).take (HT.sIx ((path ps i).map nP).length ((path ps i).map nP).length (some ((path ps i).length - a)) - HT.sIx ((path ps i).map nP).length 0 none), ?_, ?_⟩
      · unfold cutL
        rw [← List.map_drop, ← List.map_take]
      · intro j hj
        have := path_lt ac hi j (List.mem_of_mem_drop (List.mem_of_mem_take hj))
        omega
    obtain ⟨ρ', el, zs, s11, i11, hz, rfl⟩ := loop_ls (t := gN 11) (f := B_law_2) (xs := js.map nP) (ρ := [.scr ns, .lst .ow [.int c1, .int (k + 1)], .int n, .lst .ow [.lst .fz [.lst .fz (ps.map pP), K0], A1], s4, s5, recV xs, recV ys, .int a, .lst .ow ((path ps i).map nP), .lst .ow (ys.map .int), .emp, .emp, .emp, .emp, .emp])
      (fun _ ρ => ∃ (zs : List Int) (s11 : PV), s11.isIo = false ∧ zs.length = n ∧ ρ = [.scr ns, .lst .ow [.int c1, .int (k + 1)], .int n, .lst .ow [.lst .fz [.lst .fz (ps.map pP), K0], A1], s4, s5, recV xs, recV ys, .int a, .lst .ow ((path ps i).map nP), .lst .ow (zs.map .int), s11, .emp, .emp, .emp, .emp]) ⟨ys, .emp, rfl, hy, rfl⟩ (by
      rintro m x ρ hm ⟨zs, s11, i11, hz, rfl⟩
      rw [List.getElem?_map] at hm
      obtain ⟨j, hjj, rfl⟩ := Option.map_eq_some_iff.mp hm
      have hjn := hj j (List.mem_of_getElem? hjj)
      obtain ⟨v, hvv⟩ : ∃ v, xs[j]? = some v := ⟨_, List.getElem?_eq_getElem (by omega)⟩
      have x1 : L2.atI (xs.map PV.int) (j : Int) = some (PV.int v) := atI_n (by rw [List.getElem?_map, hvv]; rfl)
      have x3 : L2.ixN zs.length (j : Int) = some j := by rw [ixN_nat (by omega) (by omega)]; simp
      refine ⟨_, [.scr ns, .lst .ow [.int c1, .int (k + 1)], .int n, .lst .ow [.lst .fz [.lst .fz (ps.map pP), K0], A1], s4, s5, recV xs, recV ys, .int a, .lst .ow ((path ps i).map nP), .lst .ow ((zs.set j v).map .int), .int j, .emp, .emp, .emp, .emp], gN_ok i11, ?_, zs.set j v, .int j, rfl, by simpa using hz, rfl⟩
      unfold B_law_2
      simp [u_sSeq, u_sE, u_sSet, u_sRet, u_sRetN, u_sIf, u_sSub, u_sNx, u_sBk, u_sCt, u_eN, u_eC, u_eBin, u_eUn, u_eFn, u_eNot, u_eAnd, u_eOr, u_eIf, u_eTup, u_eLst, u_aCons, u_aNil, u_tB, u_tE, u_tNot, u_tAnd, u_tOr, keep, take, takes, hv, PV.toIo, PV.reFl, ofO, ofB, ofL, blOf, oIx, oAdd, oSub, oMul, oMod, oDiv, oPow, oI, oB, oGe, oLt, oLe, oGt, oInt, exitF, exit1, u_eCall, okArgs, back, isSl, runF, lim, nth, oLen, oAbs, u_eMu, muEnd, uAppend, uPop1, uInsert, u_eRg1, oRg, u_sFor, u_iRg1, u_iRg2, u_iSeq, ofX, seqOf, u_eCh, u_eSl, u_eMeth, u_eProp, u_eMake, u_eObj, u_gT, u_sAsg, u_sAt, u_tYesV, u_eLc, u_eMt, u_sRaise1, u_iEnumV, u_iZipV, u_eKd, u_eIsE, u_eFE, x1, x3, List.map_set])
    refine ⟨c1, k + 1, zs, .lst .ow ((path ps i).map nP), .lst .ow (zs.map .int), s11, hz, ?_⟩
    simp [u_sSeq, u_sE, u_sSet, u_sRet, u_sRetN, u_sIf, u_sSub, u_sNx, u_sBk, u_sCt, u_eN, u_eC, u_eBin, u_eUn, u_eFn, u_eNot, u_eAnd, u_eOr, u_eIf, u_eTup, u_eLst, u_aCons, u_aNil, u_tB, u_tE, u_tNot, u_tAnd, u_tOr, keep, take, takes, hv, PV.toIo, PV.reFl, ofO, ofB, ofL, blOf, oIx, oAdd, oSub, oMul, oMod, oDiv, oPow, oI, oB, oGe, oLt, oLe, oGt, oInt, exitF, exit1, u_eCall, okArgs, back, isSl, runF, lim, nth, oLen, oAbs, u_eMu, muEnd, uAppend, uPop1, uInsert, u_eRg1, oRg, u_sFor, u_iRg1, u_iRg2, u_iSeq, ofX, seqOf, u_eCh, u_eSl, u_eMeth, u_eProp, u_eMake, u_eObj, u_gT, u_sAsg, u_sAt, u_tYesV, u_eLc, u_eMt, u_sRaise1, u_iEnumV, u_iZipV, u_eKd, u_eIsE, u_eFE, h, e0, e1, oList, oTuple, part, oCut, ej, el]
  · refine ⟨c, k, ys, .emp, .emp, .emp, hy, ?_⟩
    simp [u_sSeq, u_sE, u_sSet, u_sRet, u_sRetN, u_sIf, u_sSub, u_sNx, u_sBk, u_sCt, u_eN, u_eC, u_eBin, u_eUn, u_eFn, u_eNot, u_eAnd, u_eOr, u_eIf, u_eTup, u_eLst, u_aCons, u_aNil, u_tB, u_tE, u_tNot, u_tAnd, u_tOr, keep, take, takes, hv, PV.toIo, PV.reFl, ofO, ofB, ofL, blOf, oIx, oAdd, oSub, oMul, oMod, oDiv, oPow, oI, oB, oGe, oLt, oLe, oGt, oInt, exitF, exit1, u_eCall, okArgs, back, isSl, runF, lim, nth, oLen, oAbs, u_eMu, muEnd, uAppend, uPop1, uInsert, u_eRg1, oRg, u_sFor, u_iRg1, u_iRg2, u_iSeq, ofX, seqOf, u_eCh, u_eSl, u_eMeth, u_eProp, u_eMake, u_eObj, u_gT, u_sAsg, u_sAt, u_tYesV, u_eLc, u_eMt, u_sRaise1, u_iEnumV, u_iZipV, u_eKd, u_eIsE, u_eFE, h]
end Law

set_option linter.all false
set_option maxRecDepth 100000
namespace Law
open VL PySem My
theorem seq_nx {f k : M Fw} {ρ ρ1 : List PV} (h : f ρ = .ok .nx ρ1) : sSeq f k ρ = k ρ1 := by rw [u_sSeq, h]
theorem p_fo (ps : List (Option Nat)) (ks : List Str) (ok : FOk ps ks) (ρ : List PV) : B_law_3 (ρ.set 13 (.lst .fz [.lst .fz (ps.map pP), .lst .fz (ks.map .str)])) = .ok (.tm (foV ps ks)) (ρ.set 13 (.lst .fz [.lst .fz (ps.map pP), .lst .fz (ks.map .str)])) ∨ ρ.length ≤ 13 := by
  by_cases h : 13 < ρ.length
  · left
    have e := p_init ps ks ok
    have g : nth (ρ.set 13 (.lst .fz [.lst .fz (ps.map pP), .lst .fz (ks.map .str)])) 13 = .lst .fz [.lst .fz (ps.map pP), .lst .fz (ks.map .str)] := nth_set_same h
    generalize ρ.set 13 (.lst .fz [.lst .fz (ps.map pP), .lst .fz (ks.map .str)]) = ρ2 at g
    unfold B_law_3
    simp [u_eMake, u_aCons, u_aNil, u_eFn, u_eBin, u_eN, u_eC, g, hv, oIx, ofO, oList, okArgs, back, e, at20, at21]
  · right; omega
theorem pair_ans (ps0 ps1 : List (Option Nat)) (ks0 ks1 : List Str) (ok0 : FOk ps0 ks0) (ok1 : FOk ps1 ks1) (a b : List Int) (h0 : a.length = ps0.length) (h1 : b.length = ps0.length) (h2 : ps1.length = ps0.length) (r0 r1 r2 s5 s6 s7 s8 s9 s10 s11 s13 s15 : PV) (t : Int) (ht : t = 0 ∨ t = 1) :
    B_law_4 [r0, r1, r2, .lst .fz [(.lst .fz [.lst .fz (ps0.map pP), .lst .fz (ks0.map .str)]), (.lst .fz [.lst .fz (ps1.map pP), .lst .fz (ks1.map .str)])], .int t, s5, s6, s7, s8, s9, s10, s11, (.lst .ow [foV ps0 ks0, foV ps1 ks1]), s13, .lst .fz [recV a, recV b], s15] = .ok .nx [r0, r1, r2, .lst .fz [(.lst .fz [.lst .fz (ps0.map pP), .lst .fz (ks0.map .str)]), (.lst .fz [.lst .fz (ps1.map pP), .lst .fz (ks1.map .str)])], .int t, s5, s6, s7, s8, s9, s10, s11, (.lst .ow [foV ps0 ks0, foV ps1 ks1]), s13, .lst .fz [recV a, recV b], s15] := by
  have e0 := p_answers ps0 ks0 a b ok0 h0 h1
  have e1 := p_answers ps1 ks1 a b ok1 (by omega) (by omega)
  unfold B_law_4
  rcases ht with rfl | rfl
  · simp [u_sSeq, u_sE, u_sSet, u_sRet, u_sRetN, u_sIf, u_sSub, u_sNx, u_sBk, u_sCt, u_eN, u_eC, u_eBin, u_eUn, u_eFn, u_eNot, u_eAnd, u_eOr, u_eIf, u_eTup, u_eLst, u_aCons, u_aNil, u_tB, u_tE, u_tNot, u_tAnd, u_tOr, keep, take, takes, hv, PV.toIo, PV.reFl, ofO, ofB, ofL, blOf, oIx, oAdd, oSub, oMul, oMod, oDiv, oPow, oI, oB, oGe, oLt, oLe, oGt, oInt, exitF, exit1, u_eCall, okArgs, back, isSl, runF, lim, nth, oLen, oAbs, u_eMu, muEnd, uAppend, uPop1, uInsert, u_eRg1, oRg, u_sFor, u_iRg1, u_iRg2, u_iSeq, ofX, seqOf, u_eCh, u_eSl, u_eMeth, u_eProp, u_eMake, u_eObj, u_gT, u_sAsg, u_sAt, u_tYesV, u_eLc, u_eMt, u_sRaise1, u_iEnumV, u_iZipV, u_eKd, u_eIsE, u_eFE, e0, tru]
  · simp [u_sSeq, u_sE, u_sSet, u_sRet, u_sRetN, u_sIf, u_sSub, u_sNx, u_sBk, u_sCt, u_eN, u_eC, u_eBin, u_eUn, u_eFn, u_eNot, u_eAnd, u_eOr, u_eIf, u_eTup, u_eLst, u_aCons, u_aNil, u_tB, u_tE, u_tNot, u_tAnd, u_tOr, keep, take, takes, hv, PV.toIo, PV.reFl, ofO, ofB, ofL, blOf, oIx, oAdd, oSub, oMul, oMod, oDiv, oPow, oI, oB, oGe, oLt, oLe, oGt, oInt, exitF, exit1, u_eCall, okArgs, back, isSl, runF, lim, nth, oLen, oAbs, u_eMu, muEnd, uAppend, uPop1, uInsert, u_eRg1, oRg, u_sFor, u_iRg1, u_iRg2, u_iSeq, ofX, seqOf, u_eCh, u_eSl, u_eMeth, u_eProp, u_eMake, u_eObj, u_gT, u_sAsg, u_sAt, u_tYesV, u_eLc, u_eMt, u_sRaise1, u_iEnumV, u_iZipV, u_eKd, u_eIsE, u_eFE, e1, tru]
theorem pair_loop (ps0 ps1 : List (Option Nat)) (ks0 ks1 : List Str) (ok0 : FOk ps0 ks0) (ok1 : FOk ps1 ks1) (a b : List Int) (h0 : a.length = ps0.length) (h1 : b.length = ps0.length) (h2 : ps1.length = ps0.length) (r0 r1 r2 s5 s6 s7 s8 s9 s10 s11 s13 s15 : PV) (t : Int) :
    B_law_5 [r0, r1, r2, .lst .fz [(.lst .fz [.lst .fz (ps0.map pP), .lst .fz (ks0.map .str)]), (.lst .fz [.lst .fz (ps1.map pP), .lst .fz (ks1.map .str)])], .int t, s5, s6, s7, s8, s9, s10, s11, (.lst .ow [foV ps0 ks0, foV ps1 ks1]), s13, .lst .fz [recV a, recV b], s15] = .ok .nx [r0, r1, r2, .lst .fz [(.lst .fz [.lst .fz (ps0.map pP), .lst .fz (ks0.map .str)]), (.lst .fz [.lst .fz (ps1.map pP), .lst .fz (ks1.map .str)])], .int 1, s5, s6, s7, s8, s9, s10, s11, (.lst .ow [foV ps0 ks0, foV ps1 ks1]), s13, .lst .fz [recV a, recV b], s15] := by
  have l : loop (gN 4) B_law_4 (rgL 0 2) [r0, r1, r2, .lst .fz [(.lst .fz [.lst .fz (ps0.map pP), .lst .fz (ks0.map .str)]), (.lst .fz [.lst .fz (ps1.map pP), .lst .fz (ks1.map .str)])], .int t, s5, s6, s7, s8, s9, s10, s11, (.lst .ow [foV ps0 ks0, foV ps1 ks1]), s13, .lst .fz [recV a, recV b], s15] = .ok .nx [r0, r1, r2, .lst .fz [(.lst .fz [.lst .fz (ps0.map pP), .lst .fz (ks0.map .str)]), (.lst .fz [.lst .fz (ps1.map pP), .lst .fz (ks1.map .str)])], .int 1, s5, s6, s7, s8, s9, s10, s11, (.lst .ow [foV ps0 ks0, foV ps1 ks1]), s13, .lst .fz [recV a, recV b], s15] := by
    rw [rg2]
    exact loop2 (gN_ok rfl) (pair_ans ps0 ps1 ks0 ks1 ok0 ok1 a b h0 h1 h2 r0 r1 r2 s5 s6 s7 s8 s9 s10 s11 s13 s15 0 (.inl rfl)) (gN_ok rfl) (pair_ans ps0 ps1 ks0 ks1 ok0 ok1 a b h0 h1 h2 r0 r1 r2 s5 s6 s7 s8 s9 s10 s11 s13 s15 1 (.inr rfl))
  unfold B_law_5
  simp [u_sSeq, u_sE, u_sSet, u_sRet, u_sRetN, u_sIf, u_sSub, u_sNx, u_sBk, u_sCt, u_eN, u_eC, u_eBin, u_eUn, u_eFn, u_eNot, u_eAnd, u_eOr, u_eIf, u_eTup, u_eLst, u_aCons, u_aNil, u_tB, u_tE, u_tNot, u_tAnd, u_tOr, keep, take, takes, hv, PV.toIo, PV.reFl, ofO, ofB, ofL, blOf, oIx, oAdd, oSub, oMul, oMod, oDiv, oPow, oI, oB, oGe, oLt, oLe, oGt, oInt, exitF, exit1, u_eCall, okArgs, back, isSl, runF, lim, nth, oLen, oAbs, u_eMu, muEnd, uAppend, uPop1, uInsert, u_eRg1, oRg, u_sFor, u_iRg1, u_iRg2, u_iSeq, ofX, seqOf, u_eCh, u_eSl, u_eMeth, u_eProp, u_eMake, u_eObj, u_gT, u_sAsg, u_sAt, u_tYesV, u_eLc, u_eMt, u_sRaise1, u_iEnumV, u_iZipV, u_eKd, u_eIsE, u_eFE, l]
theorem ref_law (ps0 ps1 : List (Option Nat)) (ks0 ks1 : List Str) (ok0 : FOk ps0 ks0) (ok1 : FOk ps1 ks1) (a b : List Int) (h0 : a.length = ps0.length) (h1 : b.length = ps0.length) (h2 : ps1.length = ps0.length) (r0 r1 r2 s5 s8 s9 s10 s11 s13 s14 : PV) (c k t : Int) (ht : t = 0 ∨ t = 1) :
    ∃ c' k' : Int, B_law_6 [r0, r1, r2, .lst .fz [(.lst .fz [.lst .fz (ps0.map pP), .lst .fz (ks0.map .str)]), (.lst .fz [.lst .fz (ps1.map pP), .lst .fz (ks1.map .str)])], .int t, s5, recV a, recV b, s8, s9, s10, s11, (.lst .ow [foV ps0 ks0, foV ps1 ks1]), s13, s14, .lst .ow [.int c, .int k]] = .ok .nx [r0, r1, r2, .lst .fz [(.lst .fz [.lst .fz (ps0.map pP), .lst .fz (ks0.map .str)]), (.lst .fz [.lst .fz (ps1.map pP), .lst .fz (ks1.map .str)])], .int t, s5, recV a, recV b, s8, s9, s10, s11, (.lst .ow [foV ps0 ks0, foV ps1 ks1]), s13, s14, .lst .ow [.int c', .int k']] := by
  have e0 := p_answers ps0 ks0 a b ok0 h0 h1
  have e1 := p_answers ps1 ks1 a b ok1 (by omega) (by omega)
  obtain ⟨c0, k0, f0⟩ := p_refuses ps0 ks0 c k a b ok0 h0 h1
  obtain ⟨c1, k1, f1⟩ := p_refuses ps1 ks1 c k a b ok1 (by omega) (by omega)
  unfold B_law_6
  rcases ht with rfl | rfl
  · refine ⟨c0, k0, ?_⟩
    simp [u_sSeq, u_sE, u_sSet, u_sRet, u_sRetN, u_sIf, u_sSub, u_sNx, u_sBk, u_sCt, u_eN, u_eC, u_eBin, u_eUn, u_eFn, u_eNot, u_eAnd, u_eOr, u_eIf, u_eTup, u_eLst, u_aCons, u_aNil, u_tB, u_tE, u_tNot, u_tAnd, u_tOr, keep, take, takes, hv, PV.toIo, PV.reFl, ofO, ofB, ofL, blOf, oIx, oAdd, oSub, oMul, oMod, oDiv, oPow, oI, oB, oGe, oLt, oLe, oGt, oInt, exitF, exit1, u_eCall, okArgs, back, isSl, runF, lim, nth, oLen, oAbs, u_eMu, muEnd, uAppend, uPop1, uInsert, u_eRg1, oRg, u_sFor, u_iRg1, u_iRg2, u_iSeq, ofX, seqOf, u_eCh, u_eSl, u_eMeth, u_eProp, u_eMake, u_eObj, u_gT, u_sAsg, u_sAt, u_tYesV, u_eLc, u_eMt, u_sRaise1, u_iEnumV, u_iZipV, u_eKd, u_eIsE, u_eFE, e0, f0, tru]
  · refine ⟨c1, k1, ?_⟩
    simp [u_sSeq, u_sE, u_sSet, u_sRet, u_sRetN, u_sIf, u_sSub, u_sNx, u_sBk, u_sCt, u_eN, u_eC, u_eBin, u_eUn, u_eFn, u_eNot, u_eAnd, u_eOr, u_eIf, u_eTup, u_eLst, u_aCons, u_aNil, u_tB, u_tE, u_tNot, u_tAnd, u_tOr, keep, take, takes, hv, PV.toIo, PV.reFl, ofO, ofB, ofL, blOf, oIx, oAdd, oSub, oMul, oMod, oDiv, oPow, oI, oB, oGe, oLt, oLe, oGt, oInt, exitF, exit1, u_eCall, okArgs, back, isSl, runF, lim, nth, oLen, oAbs, u_eMu, muEnd, uAppend, uPop1, uInsert, u_eRg1, oRg, u_sFor, u_iRg1, u_iRg2, u_iSeq, ofX, seqOf, u_eCh, u_eSl, u_eMeth, u_eProp, u_eMake, u_eObj, u_gT, u_sAsg, u_sAt, u_tYesV, u_eLc, u_eMt, u_sRaise1, u_iEnumV, u_iZipV, u_eKd, u_eIsE, u_eFE, e1, f1, tru]
theorem LAW : ∀ ns : List Int, ns.length ≤ 63 → ∃ fin, F_law [.scr ns] = .ok (.bl true) fin := by
  intro ns _
  suffices h : ∃ ρ', W_law [.scr ns, .emp, .emp, .emp, .emp, .emp, .emp, .emp, .emp, .emp, .emp, .emp, .emp, .emp, .emp, .emp] = .ok (.rt (.bl true)) ρ' by
    obtain ⟨ρ', h⟩ := h
    refine ⟨exitF [.scr ns] ρ', ?_⟩
    unfold F_law
    have a : ([PV.scr ns].map PV.toIo ++ List.replicate (16 - 1) PV.emp) = [.scr ns, .emp, .emp, .emp, .emp, .emp, .emp, .emp, .emp, .emp, .emp, .emp, .emp, .emp, .emp, .emp] := rfl
    unfold runF
    rw [a, h]
    rfl
  obtain ⟨c, k, n, n1, n8, eA⟩ := lawA ns
  unfold W_law
  rw [eA]
  have s4 : sSet 3 (eLst aNil) [.scr ns, .lst .ow [.int c, .int k], .int n, .emp, .emp, .emp, .emp, .emp, .emp, .emp, .emp, .emp, .emp, .emp, .emp, .emp] = .ok .nx [.scr ns, .lst .ow [.int c, .int k], .int n, .lst .ow [], .emp, .emp, .emp, .emp, .emp, .emp, .emp, .emp, .emp, .emp, .emp, .emp] := by simp [u_sSeq, u_sE, u_sSet, u_sRet, u_sRetN, u_sIf, u_sSub, u_sNx, u_sBk, u_sCt, u_eN, u_eC, u_eBin, u_eUn, u_eFn, u_eNot, u_eAnd, u_eOr, u_eIf, u_eTup, u_eLst, u_aCons, u_aNil, u_tB, u_tE, u_tNot, u_tAnd, u_tOr, keep, take, takes, hv, PV.toIo, PV.reFl, ofO, ofB, ofL, blOf, oIx, oAdd, oSub, oMul, oMod, oDiv, oPow, oI, oB, oGe, oLt, oLe, oGt, oInt, exitF, exit1, u_eCall, okArgs, back, isSl, runF, lim, nth, oLen, oAbs, u_eMu, muEnd, uAppend, uPop1, uInsert, u_eRg1, oRg, u_sFor, u_iRg1, u_iRg2, u_iSeq, ofX, seqOf, u_eCh, u_eSl, u_eMeth, u_eProp, u_eMake, u_eObj, u_gT, u_sAsg, u_sAt, u_tYesV, u_eLc, u_eMt, u_sRaise1, u_iEnumV, u_iZipV, u_eKd, u_eIsE, u_eFE]
  rw [seq_nx s4]
  obtain ⟨c1, k1, ps0, ks0, ok0, l0, b0⟩ := lawB ns c k 0 n n1 n8 [] (by decide) .emp rfl (by omega)
  obtain ⟨c2, k2, ps1, ks1, ok1, l1, b1⟩ := lawB ns c1 k1 1 n n1 n8 [(.lst .fz [.lst .fz (ps0.map pP), .lst .fz (ks0.map .str)])] (by simp) (.lst .fz (ps0.map pP)) rfl (by omega)
  have hl : ps1.length = ps0.length := by omega
  have s5 : sFor (iRg1 (aCons (eC (.int 2)) aNil)) (gN 4) B_law_1 [.scr ns, .lst .ow [.int c, .int k], .int n, .lst .ow [], .emp, .emp, .emp, .emp, .emp, .emp, .emp, .emp, .emp, .emp, .emp, .emp] = .ok .nx [.scr ns, .lst .ow [.int c2, .int k2], .int n, .lst .ow [(.lst .fz [.lst .fz (ps0.map pP), .lst .fz (ks0.map .str)]), (.lst .fz [.lst .fz (ps1.map pP), .lst .fz (ks1.map .str)])], .int 1, .lst .fz (ps1.map pP), .emp, .emp, .emp, .emp, .emp, .emp, .emp, .emp, .emp, .emp] := by
    have l : loop (gN 4) B_law_1 (rgL 0 2) [.scr ns, .lst .ow [.int c, .int k], .int n, .lst .ow [], .emp, .emp, .emp, .emp, .emp, .emp, .emp, .emp, .emp, .emp, .emp, .emp] = .ok .nx [.scr ns, .lst .ow [.int c2, .int k2], .int n, .lst .ow [(.lst .fz [.lst .fz (ps0.map pP), .lst .fz (ks0.map .str)]), (.lst .fz [.lst .fz (ps1.map pP), .lst .fz (ks1.map .str)])], .int 1, .lst .fz (ps1.map pP), .emp, .emp, .emp, .emp, .emp, .emp, .emp, .emp, .emp, .emp] := by
      rw [rg2]
      exact loop2 (gN_ok rfl) b0 (gN_ok rfl) b1
    simp [u_sSeq, u_sE, u_sSet, u_sRet, u_sRetN, u_sIf, u_sSub, u_sNx, u_sBk, u_sCt, u_eN, u_eC, u_eBin, u_eUn, u_eFn, u_eNot, u_eAnd, u_eOr, u_eIf, u_eTup, u_eLst, u_aCons, u_aNil, u_tB, u_tE, u_tNot, u_tAnd, u_tOr, keep, take, takes, hv, PV.toIo, PV.reFl, ofO, ofB, ofL, blOf, oIx, oAdd, oSub, oMul, oMod, oDiv, oPow, oI, oB, oGe, oLt, oLe, oGt, oInt, exitF, exit1, u_eCall, okArgs, back, isSl, runF, lim, nth, oLen, oAbs, u_eMu, muEnd, uAppend, uPop1, uInsert, u_eRg1, oRg, u_sFor, u_iRg1, u_iRg2, u_iSeq, ofX, seqOf, u_eCh, u_eSl, u_eMeth, u_eProp, u_eMake, u_eObj, u_gT, u_sAsg, u_sAt, u_tYesV, u_eLc, u_eMt, u_sRaise1, u_iEnumV, u_iZipV, u_eKd, u_eIsE, u_eFE, l]
  rw [seq_nx s5]
  obtain ⟨t2, e2⟩ := p_tape ns 2 (by omega)
  obtain ⟨t3, e3⟩ := p_tape ns 3 (by omega)
  obtain ⟨xs, u2, v2, f2, hx⟩ := p_record t2 0 3 n (by omega) (by omega) (by omega) .ow (by decide)
  obtain ⟨ys, u3, v3, f3, hy⟩ := p_record t3 0 3 n (by omega) (by omega) (by omega) .ow (by decide)
  have s6 : sSet 6 (eCall F__law_record (aCons (eCall F__law_tape (aCons (eN 0) (aCons (eC (.int 2)) aNil))) (aCons (eN 2) (aCons (eC (.int 3)) aNil)))) [.scr ns, .lst .ow [.int c2, .int k2], .int n, .lst .ow [(.lst .fz [.lst .fz (ps0.map pP), .lst .fz (ks0.map .str)]), (.lst .fz [.lst .fz (ps1.map pP), .lst .fz (ks1.map .str)])], .int 1, .lst .fz (ps1.map pP), .emp, .emp, .emp, .emp, .emp, .emp, .emp, .emp, .emp, .emp] = .ok .nx [.scr ns, .lst .ow [.int c2, .int k2], .int n, .lst .ow [(.lst .fz [.lst .fz (ps0.map pP), .lst .fz (ks0.map .str)]), (.lst .fz [.lst .fz (ps1.map pP), .lst .fz (ks1.map .str)])], .int 1, .lst .fz (ps1.map pP), recV xs, .emp, .emp, .emp, .emp, .emp, .emp, .emp, .emp, .emp] := by simp [u_sSeq, u_sE, u_sSet, u_sRet, u_sRetN, u_sIf, u_sSub, u_sNx, u_sBk, u_sCt, u_eN, u_eC, u_eBin, u_eUn, u_eFn, u_eNot, u_eAnd, u_eOr, u_eIf, u_eTup, u_eLst, u_aCons, u_aNil, u_tB, u_tE, u_tNot, u_tAnd, u_tOr, keep, take, takes, hv, PV.toIo, PV.reFl, ofO, ofB, ofL, blOf, oIx, oAdd, oSub, oMul, oMod, oDiv, oPow, oI, oB, oGe, oLt, oLe, oGt, oInt, exitF, exit1, u_eCall, okArgs, back, isSl, runF, lim, nth, oLen, oAbs, u_eMu, muEnd, uAppend, uPop1, uInsert, u_eRg1, oRg, u_sFor, u_iRg1, u_iRg2, u_iSeq, ofX, seqOf, u_eCh, u_eSl, u_eMeth, u_eProp, u_eMake, u_eObj, u_gT, u_sAsg, u_sAt, u_tYesV, u_eLc, u_eMt, u_sRaise1, u_iEnumV, u_iZipV, u_eKd, u_eIsE, u_eFE, e2, f2]
  rw [seq_nx s6]
  have s7 : sSet 7 (eCall F__law_record (aCons (eCall F__law_tape (aCons (eN 0) (aCons (eC (.int 3)) aNil))) (aCons (eN 2) (aCons (eC (.int 3)) aNil)))) [.scr ns, .lst .ow [.int c2, .int k2], .int n, .lst .ow [(.lst .fz [.lst .fz (ps0.map pP), .lst .fz (ks0.map .str)]), (.lst .fz [.lst .fz (ps1.map pP), .lst .fz (ks1.map .str)])], .int 1, .lst .fz (ps1.map pP), recV xs, .emp, .emp, .emp, .emp, .emp, .emp, .emp, .emp, .emp] = .ok .nx [.scr ns, .lst .ow [.int c2, .int k2], .int n, .lst .ow [(.lst .fz [.lst .fz (ps0.map pP), .lst .fz (ks0.map .str)]), (.lst .fz [.lst .fz (ps1.map pP), .lst .fz (ks1.map .str)])], .int 1, .lst .fz (ps1.map pP), recV xs, recV ys, .emp, .emp, .emp, .emp, .emp, .emp, .emp, .emp] := by simp [u_sSeq, u_sE, u_sSet, u_sRet, u_sRetN, u_sIf, u_sSub, u_sNx, u_sBk, u_sCt, u_eN, u_eC, u_eBin, u_eUn, u_eFn, u_eNot, u_eAnd, u_eOr, u_eIf, u_eTup, u_eLst, u_aCons, u_aNil, u_tB, u_tE, u_tNot, u_tAnd, u_tOr, keep, take, takes, hv, PV.toIo, PV.reFl, ofO, ofB, ofL, blOf, oIx, oAdd, oSub, oMul, oMod, oDiv, oPow, oI, oB, oGe, oLt, oLe, oGt, oInt, exitF, exit1, u_eCall, okArgs, back, isSl, runF, lim, nth, oLen, oAbs, u_eMu, muEnd, uAppend, uPop1, uInsert, u_eRg1, oRg, u_sFor, u_iRg1, u_iRg2, u_iSeq, ofX, seqOf, u_eCh, u_eSl, u_eMeth, u_eProp, u_eMake, u_eObj, u_gT, u_sAsg, u_sAt, u_tYesV, u_eLc, u_eMt, u_sRaise1, u_iEnumV, u_iZipV, u_eKd, u_eIsE, u_eFE, e3, f3]
  rw [seq_nx s7]
  obtain ⟨a, c4, e4, a0, a1⟩ := p_take c2 k2 6 .ow (by decide) (by omega) (by omega)
  have s8 : sSet 8 (eCall F__law_take (aCons (eN 1) (aCons (eC (.int 6)) aNil))) [.scr ns, .lst .ow [.int c2, .int k2], .int n, .lst .ow [(.lst .fz [.lst .fz (ps0.map pP), .lst .fz (ks0.map .str)]), (.lst .fz [.lst .fz (ps1.map pP), .lst .fz (ks1.map .str)])], .int 1, .lst .fz (ps1.map pP), recV xs, recV ys, .emp, .emp, .emp, .emp, .emp, .emp, .emp, .emp] = .ok .nx [.scr ns, .lst .ow [.int c4, .int (k2 + 1)], .int n, .lst .ow [(.lst .fz [.lst .fz (ps0.map pP), .lst .fz (ks0.map .str)]), (.lst .fz [.lst .fz (ps1.map pP), .lst .fz (ks1.map .str)])], .int 1, .lst .fz (ps1.map pP), recV xs, recV ys, .int a, .emp, .emp, .emp, .emp, .emp, .emp, .emp] := by simp [u_sSeq, u_sE, u_sSet, u_sRet, u_sRetN, u_sIf, u_sSub, u_sNx, u_sBk, u_sCt, u_eN, u_eC, u_eBin, u_eUn, u_eFn, u_eNot, u_eAnd, u_eOr, u_eIf, u_eTup, u_eLst, u_aCons, u_aNil, u_tB, u_tE, u_tNot, u_tAnd, u_tOr, keep, take, takes, hv, PV.toIo, PV.reFl, ofO, ofB, ofL, blOf, oIx, oAdd, oSub, oMul, oMod, oDiv, oPow, oI, oB, oGe, oLt, oLe, oGt, oInt, exitF, exit1, u_eCall, okArgs, back, isSl, runF, lim, nth, oLen, oAbs, u_eMu, muEnd, uAppend, uPop1, uInsert, u_eRg1, oRg, u_sFor, u_iRg1, u_iRg2, u_iSeq, ofX, seqOf, u_eCh, u_eSl, u_eMeth, u_eProp, u_eMake, u_eObj, u_gT, u_sAsg, u_sAt, u_tYesV, u_eLc, u_eMt, u_sRaise1, u_iEnumV, u_iZipV, u_eKd, u_eIsE, u_eFE, e4]
  rw [seq_nx s8]
  obtain ⟨c5, k5, zs, s9, s10, s11, hz, eD⟩ := lawD ps0 ok0.acy ns c4 (k2 + 1) a n l0 n1 n8 (.lst .fz (ks0.map .str)) (.lst .fz [.lst .fz (ps1.map pP), .lst .fz (ks1.map .str)]) (.int 1) (.lst .fz (ps1.map pP)) xs ys hx hy a0 a1
  rw [seq_nx eD]
  have s12 : sSet 12 (eLc (iSeq (eN 3)) (gN 13) tYesV B_law_3 [13]) [.scr ns, .lst .ow [.int c5, .int k5], .int n, .lst .ow [(.lst .fz [.lst .fz (ps0.map pP), .lst .fz (ks0.map .str)]), (.lst .fz [.lst .fz (ps1.map pP), .lst .fz (ks1.map .str)])], .int 1, .lst .fz (ps1.map pP), recV xs, recV zs, .int a, s9, s10, s11, .emp, .emp, .emp, .emp] = .ok .nx [.scr ns, .lst .ow [.int c5, .int k5], .int n, .lst .fz [(.lst .fz [.lst .fz (ps0.map pP), .lst .fz (ks0.map .str)]), (.lst .fz [.lst .fz (ps1.map pP), .lst .fz (ks1.map .str)])], .int 1, .lst .fz (ps1.map pP), recV xs, recV zs, .int a, s9, s10, s11, (.lst .ow [foV ps0 ks0, foV ps1 ks1]), .emp, .emp, .emp] := by
    have q0 := (p_fo ps0 ks0 ok0 [.scr ns, .lst .ow [.int c5, .int k5], .int n, .lst .fz [(.lst .fz [.lst .fz (ps0.map pP), .lst .fz (ks0.map .str)]), (.lst .fz [.lst .fz (ps1.map pP), .lst .fz (ks1.map .str)])], .int 1, .lst .fz (ps1.map pP), recV xs, recV zs, .int a, s9, s10, s11, .emp, .emp, .emp, .emp]).resolve_right (by simp)
    have q1 := (p_fo ps1 ks1 ok1 [.scr ns, .lst .ow [.int c5, .int k5], .int n, .lst .fz [(.lst .fz [.lst .fz (ps0.map pP), .lst .fz (ks0.map .str)]), (.lst .fz [.lst .fz (ps1.map pP), .lst .fz (ks1.map .str)])], .int 1, .lst .fz (ps1.map pP), recV xs, recV zs, .int a, s9, s10, s11, .emp, .emp, .emp, .emp]).resolve_right (by simp)
    simp only [List.set_cons_succ, List.set_cons_zero] at q0 q1
    have l : lcl (gN 13) tYesV B_law_3 [13] [(.lst .fz [.lst .fz (ps0.map pP), .lst .fz (ks0.map .str)]), (.lst .fz [.lst .fz (ps1.map pP), .lst .fz (ks1.map .str)])] [] [.scr ns, .lst .ow [.int c5, .int k5], .int n, .lst .fz [(.lst .fz [.lst .fz (ps0.map pP), .lst .fz (ks0.map .str)]), (.lst .fz [.lst .fz (ps1.map pP), .lst .fz (ks1.map .str)])], .int 1, .lst .fz (ps1.map pP), recV xs, recV zs, .int a, s9, s10, s11, .emp, .emp, .emp, .emp] = .ok [foV ps0 ks0, foV ps1 ks1] [.scr ns, .lst .ow [.int c5, .int k5], .int n, .lst .fz [(.lst .fz [.lst .fz (ps0.map pP), .lst .fz (ks0.map .str)]), (.lst .fz [.lst .fz (ps1.map pP), .lst .fz (ks1.map .str)])], .int 1, .lst .fz (ps1.map pP), recV xs, recV zs, .int a, s9, s10, s11, .emp, .emp, .emp, .emp] := by
      simp [lcl, u_tYesV, q0, q1, take, lim, wipeQ, nth]
    simp [u_sSeq, u_sE, u_sSet, u_sRet, u_sRetN, u_sIf, u_sSub, u_sNx, u_sBk, u_sCt, u_eN, u_eC, u_eBin, u_eUn, u_eFn, u_eNot, u_eAnd, u_eOr, u_eIf, u_eTup, u_eLst, u_aCons, u_aNil, u_tB, u_tE, u_tNot, u_tAnd, u_tOr, keep, take, takes, hv, PV.toIo, PV.reFl, ofO, ofB, ofL, blOf, oIx, oAdd, oSub, oMul, oMod, oDiv, oPow, oI, oB, oGe, oLt, oLe, oGt, oInt, exitF, exit1, u_eCall, okArgs, back, isSl, runF, lim, nth, oLen, oAbs, u_eMu, muEnd, uAppend, uPop1, uInsert, u_eRg1, oRg, u_sFor, u_iRg1, u_iRg2, u_iSeq, ofX, seqOf, u_eCh, u_eSl, u_eMeth, u_eProp, u_eMake, u_eObj, u_gT, u_sAsg, u_sAt, u_tYesV, u_eLc, u_eMt, u_sRaise1, u_iEnumV, u_iZipV, u_eKd, u_eIsE, u_eFE, wipeQ, restP, l]
  rw [seq_nx s12]
  have P := pair_loop ps0 ps1 ks0 ks1 ok0 ok1
  have s14 : sFor (iSeq (eLst (aCons (eLst (aCons (eN 6) (aCons (eN 7) aNil))) (aCons (eLst (aCons (eN 7) (aCons (eN 6) aNil))) (aCons (eLst (aCons (eN 6) (aCons (eN 6) aNil))) (aCons (eLst (aCons (eN 6) (aCons (eN 7) aNil))) aNil)))))) (gN 14) B_law_5 [.scr ns, .lst .ow [.int c5, .int k5], .int n, .lst .fz [(.lst .fz [.lst .fz (ps0.map pP), .lst .fz (ks0.map .str)]), (.lst .fz [.lst .fz (ps1.map pP), .lst .fz (ks1.map .str)])], .int 1, .lst .fz (ps1.map pP), recV xs, recV zs, .int a, s9, s10, s11, (.lst .ow [foV ps0 ks0, foV ps1 ks1]), .emp, .emp, .emp] = .ok .nx [.scr ns, .lst .ow [.int c5, .int k5], .int n, .lst .fz [(.lst .fz [.lst .fz (ps0.map pP), .lst .fz (ks0.map .str)]), (.lst .fz [.lst .fz (ps1.map pP), .lst .fz (ks1.map .str)])], .int 1, .lst .fz (ps1.map pP), recV xs, recV zs, .int a, s9, s10, s11, (.lst .ow [foV ps0 ks0, foV ps1 ks1]), .emp, .lst .fz [recV xs, recV zs], .emp] := by
    have l : loop (gN 14) B_law_5 [.lst .fz [recV xs, recV zs], .lst .fz [recV zs, recV xs], .lst .fz [recV xs, recV xs], .lst .fz [recV xs, recV zs]] [.scr ns, .lst .ow [.int c5, .int k5], .int n, .lst .fz [(.lst .fz [.lst .fz (ps0.map pP), .lst .fz (ks0.map .str)]), (.lst .fz [.lst .fz (ps1.map pP), .lst .fz (ks1.map .str)])], .int 1, .lst .fz (ps1.map pP), recV xs, recV zs, .int a, s9, s10, s11, (.lst .ow [foV ps0 ks0, foV ps1 ks1]), .emp, .emp, .emp] = .ok .nx [.scr ns, .lst .ow [.int c5, .int k5], .int n, .lst .fz [(.lst .fz [.lst .fz (ps0.map pP), .lst .fz (ks0.map .str)]), (.lst .fz [.lst .fz (ps1.map pP), .lst .fz (ks1.map .str)])], .int 1, .lst .fz (ps1.map pP), recV xs, recV zs, .int a, s9, s10, s11, (.lst .ow [foV ps0 ks0, foV ps1 ks1]), .emp, .lst .fz [recV xs, recV zs], .emp] := by
      have g1 : ∀ (x : PV) (ρ : List PV), (nth ρ 14).isIo = false → x.isIo = false → gN 14 x ρ = some (ρ.set 14 x) := fun x ρ h1 h2 => gN_ok h1 h2
      have p1 := P xs zs (by omega) (by omega) hl
      have p2 := P zs xs (by omega) (by omega) hl
      have p3 := P xs xs (by omega) (by omega) hl
      simp [loop, nth, p1, p2, p3]
    simp [u_sSeq, u_sE, u_sSet, u_sRet, u_sRetN, u_sIf, u_sSub, u_sNx, u_sBk, u_sCt, u_eN, u_eC, u_eBin, u_eUn, u_eFn, u_eNot, u_eAnd, u_eOr, u_eIf, u_eTup, u_eLst, u_aCons, u_aNil, u_tB, u_tE, u_tNot, u_tAnd, u_tOr, keep, take, takes, hv, PV.toIo, PV.reFl, ofO, ofB, ofL, blOf, oIx, oAdd, oSub, oMul, oMod, oDiv, oPow, oI, oB, oGe, oLt, oLe, oGt, oInt, exitF, exit1, u_eCall, okArgs, back, isSl, runF, lim, nth, oLen, oAbs, u_eMu, muEnd, uAppend, uPop1, uInsert, u_eRg1, oRg, u_sFor, u_iRg1, u_iRg2, u_iSeq, ofX, seqOf, u_eCh, u_eSl, u_eMeth, u_eProp, u_eMake, u_eObj, u_gT, u_sAsg, u_sAt, u_tYesV, u_eLc, u_eMt, u_sRaise1, u_iEnumV, u_iZipV, u_eKd, u_eIsE, u_eFE, l]
  rw [seq_nx s14]
  obtain ⟨t5, e5⟩ := p_tape ns 5 (by omega)
  have s15 : sSet 15 (eCall F__law_tape (aCons (eN 0) (aCons (eC (.int 5)) aNil))) [.scr ns, .lst .ow [.int c5, .int k5], .int n, .lst .fz [(.lst .fz [.lst .fz (ps0.map pP), .lst .fz (ks0.map .str)]), (.lst .fz [.lst .fz (ps1.map pP), .lst .fz (ks1.map .str)])], .int 1, .lst .fz (ps1.map pP), recV xs, recV zs, .int a, s9, s10, s11, (.lst .ow [foV ps0 ks0, foV ps1 ks1]), .emp, .lst .fz [recV xs, recV zs], .emp] = .ok .nx [.scr ns, .lst .ow [.int c5, .int k5], .int n, .lst .fz [(.lst .fz [.lst .fz (ps0.map pP), .lst .fz (ks0.map .str)]), (.lst .fz [.lst .fz (ps1.map pP), .lst .fz (ks1.map .str)])], .int 1, .lst .fz (ps1.map pP), recV xs, recV zs, .int a, s9, s10, s11, (.lst .ow [foV ps0 ks0, foV ps1 ks1]), .emp, .lst .fz [recV xs, recV zs], .lst .ow [.int t5, .int 0]] := by simp [u_sSeq, u_sE, u_sSet, u_sRet, u_sRetN, u_sIf, u_sSub, u_sNx, u_sBk, u_sCt, u_eN, u_eC, u_eBin, u_eUn, u_eFn, u_eNot, u_eAnd, u_eOr, u_eIf, u_eTup, u_eLst, u_aCons, u_aNil, u_tB, u_tE, u_tNot, u_tAnd, u_tOr, keep, take, takes, hv, PV.toIo, PV.reFl, ofO, ofB, ofL, blOf, oIx, oAdd, oSub, oMul, oMod, oDiv, oPow, oI, oB, oGe, oLt, oLe, oGt, oInt, exitF, exit1, u_eCall, okArgs, back, isSl, runF, lim, nth, oLen, oAbs, u_eMu, muEnd, uAppend, uPop1, uInsert, u_eRg1, oRg, u_sFor, u_iRg1, u_iRg2, u_iSeq, ofX, seqOf, u_eCh, u_eSl, u_eMeth, u_eProp, u_eMake, u_eObj, u_gT, u_sAsg, u_sAt, u_tYesV, u_eLc, u_eMt, u_sRaise1, u_iEnumV, u_iZipV, u_eKd, u_eIsE, u_eFE, e5]
  rw [seq_nx s15]
  obtain ⟨c6, k6, g0⟩ := ref_law ps0 ps1 ks0 ks1 ok0 ok1 xs zs (by omega) (by omega) hl (.scr ns) (.lst .ow [.int c5, .int k5]) (.int n) (.lst .fz (ps1.map pP)) (.int a) s9 s10 s11 .emp (.lst .fz [recV xs, recV zs]) t5 0 0 (.inl rfl)
  obtain ⟨c7, k7, g1⟩ := ref_law ps0 ps1 ks0 ks1 ok0 ok1 xs zs (by omega) (by omega) hl (.scr ns) (.lst .ow [.int c5, .int k5]) (.int n) (.lst .fz (ps1.map pP)) (.int a) s9 s10 s11 .emp (.lst .fz [recV xs, recV zs]) c6 k6 1 (.inr rfl)
  have s16 : sFor (iRg1 (aCons (eC (.int 2)) aNil)) (gN 4) B_law_6 [.scr ns, .lst .ow [.int c5, .int k5], .int n, .lst .fz [(.lst .fz [.lst .fz (ps0.map pP), .lst .fz (ks0.map .str)]), (.lst .fz [.lst .fz (ps1.map pP), .lst .fz (ks1.map .str)])], .int 1, .lst .fz (ps1.map pP), recV xs, recV zs, .int a, s9, s10, s11, (.lst .ow [foV ps0 ks0, foV ps1 ks1]), .emp, .lst .fz [recV xs, recV zs], .lst .ow [.int t5, .int 0]] = .ok .nx [.scr ns, .lst .ow [.int c5, .int k5], .int n, .lst .fz [(.lst .fz [.lst .fz (ps0.map pP), .lst .fz (ks0.map .str)]), (.lst .fz [.lst .fz (ps1.map pP), .lst .fz (ks1.map .str)])], .int 1, .lst .fz (ps1.map pP), recV xs, recV zs, .int a, s9, s10, s11, (.lst .ow [foV ps0 ks0, foV ps1 ks1]), .emp, .lst .fz [recV xs, recV zs], .lst .ow [.int c7, .int k7]] := by
    have l : loop (gN 4) B_law_6 (rgL 0 2) [.scr ns, .lst .ow [.int c5, .int k5], .int n, .lst .fz [(.lst .fz [.lst .fz (ps0.map pP), .lst .fz (ks0.map .str)]), (.lst .fz [.lst .fz (ps1.map pP), .lst .fz (ks1.map .str)])], .int 1, .lst .fz (ps1.map pP), recV xs, recV zs, .int a, s9, s10, s11, (.lst .ow [foV ps0 ks0, foV ps1 ks1]), .emp, .lst .fz [recV xs, recV zs], .lst .ow [.int t5, .int 0]] = .ok .nx [.scr ns, .lst .ow [.int c5, .int k5], .int n, .lst .fz [(.lst .fz [.lst .fz (ps0.map pP), .lst .fz (ks0.map .str)]), (.lst .fz [.lst .fz (ps1.map pP), .lst .fz (ks1.map .str)])], .int 1, .lst .fz (ps1.map pP), recV xs, recV zs, .int a, s9, s10, s11, (.lst .ow [foV ps0 ks0, foV ps1 ks1]), .emp, .lst .fz [recV xs, recV zs], .lst .ow [.int c7, .int k7]] := by
      rw [rg2]
      exact loop2 (gN_ok rfl) g0 (gN_ok rfl) g1
    simp [u_sSeq, u_sE, u_sSet, u_sRet, u_sRetN, u_sIf, u_sSub, u_sNx, u_sBk, u_sCt, u_eN, u_eC, u_eBin, u_eUn, u_eFn, u_eNot, u_eAnd, u_eOr, u_eIf, u_eTup, u_eLst, u_aCons, u_aNil, u_tB, u_tE, u_tNot, u_tAnd, u_tOr, keep, take, takes, hv, PV.toIo, PV.reFl, ofO, ofB, ofL, blOf, oIx, oAdd, oSub, oMul, oMod, oDiv, oPow, oI, oB, oGe, oLt, oLe, oGt, oInt, exitF, exit1, u_eCall, okArgs, back, isSl, runF, lim, nth, oLen, oAbs, u_eMu, muEnd, uAppend, uPop1, uInsert, u_eRg1, oRg, u_sFor, u_iRg1, u_iRg2, u_iSeq, ofX, seqOf, u_eCh, u_eSl, u_eMeth, u_eProp, u_eMake, u_eObj, u_gT, u_sAsg, u_sAt, u_tYesV, u_eLc, u_eMt, u_sRaise1, u_iEnumV, u_iZipV, u_eKd, u_eIsE, u_eFE, l]
  rw [seq_nx s16]
  obtain ⟨t6, e6⟩ := p_tape ns 6 (by omega)
  obtain ⟨fin, e7⟩ := p_values t6 0
  simp [u_sSeq, u_sE, u_sSet, u_sRet, u_sRetN, u_sIf, u_sSub, u_sNx, u_sBk, u_sCt, u_eN, u_eC, u_eBin, u_eUn, u_eFn, u_eNot, u_eAnd, u_eOr, u_eIf, u_eTup, u_eLst, u_aCons, u_aNil, u_tB, u_tE, u_tNot, u_tAnd, u_tOr, keep, take, takes, hv, PV.toIo, PV.reFl, ofO, ofB, ofL, blOf, oIx, oAdd, oSub, oMul, oMod, oDiv, oPow, oI, oB, oGe, oLt, oLe, oGt, oInt, exitF, exit1, u_eCall, okArgs, back, isSl, runF, lim, nth, oLen, oAbs, u_eMu, muEnd, uAppend, uPop1, uInsert, u_eRg1, oRg, u_sFor, u_iRg1, u_iRg2, u_iSeq, ofX, seqOf, u_eCh, u_eSl, u_eMeth, u_eProp, u_eMake, u_eObj, u_gT, u_sAsg, u_sAt, u_tYesV, u_eLc, u_eMt, u_sRaise1, u_iEnumV, u_iZipV, u_eKd, u_eIsE, u_eFE, e6, e7]
end Law


set_option Elab.async false
set_option linter.all false
set_option maxRecDepth 100000
namespace Law
open PySem PySem.Spec PyProof.Rows L2 VL
def topS (i : Nat) : Stmt := PySem.Challenge.pw_fieldrides_k07_merge_by_a_forest.main.body.getD i (.Pass ⟨0, 0, 0, 0⟩)
abbrev s__law_tape : Stmt := topS 30
abbrev N__law_tape : List Str := ["_law_script", "_law_k"]
abbrev P__law_tape : List Str := ["_law_script", "_law_k"]
theorem sc__law_tape : FnScope N__law_tape P__law_tape (defScope s__law_tape) := ⟨rfl, rfl, rfl, by decide +kernel, rfl, by decide +kernel, by decide +kernel⟩
abbrev s__law_take : Stmt := topS 31
abbrev N__law_take : List Str := ["_law_tape_here", "_law_size", "_law_cell", "_law_k", "_law_mixed"]
abbrev P__law_take : List Str := ["_law_tape_here", "_law_size"]
theorem sc__law_take : FnScope N__law_take P__law_take (defScope s__law_take) := ⟨rfl, rfl, rfl, by decide +kernel, rfl, by decide +kernel, by decide +kernel⟩
abbrev s__law_turns : Stmt := topS 34
abbrev N__law_turns : List Str := ["_law_tape_here", "_law_n", "_law_left", "_law_turns_here", "_law_k"]
abbrev P__law_turns : List Str := ["_law_tape_here", "_law_n"]
theorem sc__law_turns : FnScope N__law_turns P__law_turns (defScope s__law_turns) := ⟨rfl, rfl, rfl, by decide +kernel, rfl, by decide +kernel, by decide +kernel⟩
abbrev s__law_parents : Stmt := topS 35
abbrev N__law_parents : List Str := ["_law_tape_here", "_law_n", "_law_turns_here", "_law_bend", "_law_parents_here", "_law_k", "_law_pick"]
abbrev P__law_parents : List Str := ["_law_tape_here", "_law_n"]
theorem sc__law_parents : FnScope N__law_parents P__law_parents (defScope s__law_parents) := ⟨rfl, rfl, rfl, by decide +kernel, rfl, by decide +kernel, by decide +kernel⟩
abbrev s__law_kinds : Stmt := topS 36
abbrev N__law_kinds : List Str := ["_law_tape_here", "_law_parents_here", "_law_fair", "_law_kinds_here", "_law_field", "_law_pick"]
abbrev P__law_kinds : List Str := ["_law_tape_here", "_law_parents_here", "_law_fair"]
theorem sc__law_kinds : FnScope N__law_kinds P__law_kinds (defScope s__law_kinds) := ⟨rfl, rfl, rfl, by decide +kernel, rfl, by decide +kernel, by decide +kernel⟩
abbrev s__law_value : Stmt := topS 32
abbrev N__law_value : List Str := ["_law_tape_here", "_law_span", "_law_pick"]
abbrev P__law_value : List Str := ["_law_tape_here", "_law_span"]
theorem sc__law_value : FnScope N__law_value P__law_value (defScope s__law_value) := ⟨rfl, rfl, rfl, by decide +kernel, rfl, by decide +kernel, by decide +kernel⟩
abbrev s__law_record : Stmt := topS 33
abbrev N__law_record : List Str := ["_law_tape_here", "_law_n", "_law_span", "_law_k"]
abbrev P__law_record : List Str := ["_law_tape_here", "_law_n", "_law_span"]
theorem sc__law_record : FnScope N__law_record P__law_record (defScope s__law_record) := ⟨rfl, rfl, rfl, by decide +kernel, rfl, by decide +kernel, by decide +kernel⟩
abbrev s__law_path : Stmt := topS 37
abbrev N__law_path : List Str := ["_law_parents_here", "_law_field", "_law_path_here", "_law_k"]
abbrev P__law_path : List Str := ["_law_parents_here", "_law_field"]
theorem sc__law_path : FnScope N__law_path P__law_path (defScope s__law_path) := ⟨rfl, rfl, rfl, by decide +kernel, rfl, by decide +kernel, by decide +kernel⟩
abbrev s_way_ends : Stmt := topS 24
abbrev N_way_ends : List Str := ["parents", "field", "_"]
abbrev P_way_ends : List Str := ["parents", "field"]
theorem sc_way_ends : FnScope N_way_ends P_way_ends (defScope s_way_ends) := ⟨rfl, rfl, rfl, by decide +kernel, rfl, by decide +kernel, by decide +kernel⟩
abbrev s_is_ranked : Stmt := topS 19
abbrev N_is_ranked : List Str := ["kind"]
abbrev P_is_ranked : List Str := ["kind"]
theorem sc_is_ranked : FnScope N_is_ranked P_is_ranked (defScope s_is_ranked) := ⟨rfl, rfl, rfl, by decide +kernel, rfl, by decide +kernel, by decide +kernel⟩
abbrev s_check_forest : Stmt := topS 25
abbrev N_check_forest : List Str := ["parents", "kinds", "fields", "field", "parent", "kind"]
abbrev P_check_forest : List Str := ["parents", "kinds"]
theorem sc_check_forest : FnScope N_check_forest P_check_forest (defScope s_check_forest) := ⟨rfl, rfl, rfl, by decide +kernel, rfl, by decide +kernel, by decide +kernel⟩
abbrev s_Forest____init__ : Stmt := inClass (topS 23) 0
abbrev N_Forest____init__ : List Str := ["self", "parents", "kinds"]
abbrev P_Forest____init__ : List Str := ["self", "parents", "kinds"]
theorem sc_Forest____init__ : FnScope N_Forest____init__ P_Forest____init__ (defScope s_Forest____init__) := ⟨rfl, rfl, rfl, by decide +kernel, rfl, by decide +kernel, by decide +kernel⟩
abbrev s_check_place : Stmt := topS 16
abbrev N_check_place : List Str := ["many", "place"]
abbrev P_check_place : List Str := ["many", "place"]
theorem sc_check_place : FnScope N_check_place P_check_place (defScope s_check_place) := ⟨rfl, rfl, rfl, by decide +kernel, rfl, by decide +kernel, by decide +kernel⟩
abbrev s_check_record : Stmt := topS 15
abbrev N_check_record : List Str := ["fields", "record"]
abbrev P_check_record : List Str := ["fields", "record"]
theorem sc_check_record : FnScope N_check_record P_check_record (defScope s_check_record) := ⟨rfl, rfl, rfl, by decide +kernel, rfl, by decide +kernel, by decide +kernel⟩
abbrev s_sign : Stmt := topS 11
abbrev N_sign : List Str := ["older", "newer"]
abbrev P_sign : List Str := ["older", "newer"]
theorem sc_sign : FnScope N_sign P_sign (defScope s_sign) := ⟨rfl, rfl, rfl, by decide +kernel, rfl, by decide +kernel, by decide +kernel⟩
abbrev s_signs : Stmt := topS 12
abbrev N_signs : List Str := ["older", "newer", "value", "other"]
abbrev P_signs : List Str := ["older", "newer"]
theorem sc_signs : FnScope N_signs P_signs (defScope s_signs) := ⟨rfl, rfl, rfl, by decide +kernel, rfl, by decide +kernel, by decide +kernel⟩
abbrev s_Forest__path : Stmt := inClass (topS 23) 5
abbrev N_Forest__path : List Str := ["self", "field", "way"]
abbrev P_Forest__path : List Str := ["self", "field"]
theorem sc_Forest__path : FnScope N_Forest__path P_Forest__path (defScope s_Forest__path) := ⟨rfl, rfl, rfl, by decide +kernel, rfl, by decide +kernel, by decide +kernel⟩
abbrev s_first_marked : Stmt := topS 26
abbrev N_first_marked : List Str := ["forest", "field", "row", "step"]
abbrev P_first_marked : List Str := ["forest", "field", "row"]
theorem sc_first_marked : FnScope N_first_marked P_first_marked (defScope s_first_marked) := ⟨rfl, rfl, rfl, by decide +kernel, rfl, by decide +kernel, by decide +kernel⟩
abbrev s_first_unlike : Stmt := topS 28
abbrev N_first_unlike : List Str := ["forest", "field", "first", "second"]
abbrev P_first_unlike : List Str := ["forest", "field", "first", "second"]
theorem sc_first_unlike : FnScope N_first_unlike P_first_unlike (defScope s_first_unlike) := ⟨rfl, rfl, rfl, by decide +kernel, rfl, by decide +kernel, by decide +kernel⟩
abbrev s__law_unlike : Stmt := topS 45
abbrev N__law_unlike : List Str := ["_law_parents_here", "_law_field", "_law_first_here", "_law_second", "_law_place"]
abbrev P__law_unlike : List Str := ["_law_parents_here", "_law_field", "_law_first_here", "_law_second"]
theorem sc__law_unlike : FnScope N__law_unlike P__law_unlike (defScope s__law_unlike) := ⟨rfl, rfl, rfl, by decide +kernel, rfl, by decide +kernel, by decide +kernel⟩
abbrev s__law_is_integer : Stmt := topS 40
abbrev N__law_is_integer : List Str := ["_law_actual"]
abbrev P__law_is_integer : List Str := ["_law_actual"]
theorem sc__law_is_integer : FnScope N__law_is_integer P__law_is_integer (defScope s__law_is_integer) := ⟨rfl, rfl, rfl, by decide +kernel, rfl, by decide +kernel, by decide +kernel⟩
abbrev s__law_same : Stmt := topS 42
abbrev N__law_same : List Str := ["_law_actual", "_law_expected", "_law_k"]
abbrev P__law_same : List Str := ["_law_actual", "_law_expected"]
theorem sc__law_same : FnScope N__law_same P__law_same (defScope s__law_same) := ⟨rfl, rfl, rfl, by decide +kernel, rfl, by decide +kernel, by decide +kernel⟩
abbrev s_side_by : Stmt := topS 20
abbrev N_side_by : List Str := ["kind", "mark", "less", "more"]
abbrev P_side_by : List Str := ["kind", "mark"]
theorem sc_side_by : FnScope N_side_by P_side_by (defScope s_side_by) := ⟨rfl, rfl, rfl, by decide +kernel, rfl, by decide +kernel, by decide +kernel⟩
abbrev s_forest_side : Stmt := topS 27
abbrev N_forest_side : List Str := ["forest", "field", "row", "marked"]
abbrev P_forest_side : List Str := ["forest", "field", "row"]
theorem sc_forest_side : FnScope N_forest_side P_forest_side (defScope s_forest_side) := ⟨rfl, rfl, rfl, by decide +kernel, rfl, by decide +kernel, by decide +kernel⟩
abbrev s_Forest____call__ : Stmt := inClass (topS 23) 1
abbrev N_Forest____call__ : List Str := ["self", "older", "newer", "row", "field"]
abbrev P_Forest____call__ : List Str := ["self", "older", "newer"]
theorem sc_Forest____call__ : FnScope N_Forest____call__ P_Forest____call__ (defScope s_Forest____call__) := ⟨rfl, rfl, rfl, by decide +kernel, rfl, by decide +kernel, by decide +kernel⟩
abbrev s__law_is_record : Stmt := topS 41
abbrev N__law_is_record : List Str := ["_law_actual", "_law_n", "_law_value_here"]
abbrev P__law_is_record : List Str := ["_law_actual", "_law_n"]
theorem sc__law_is_record : FnScope N__law_is_record P__law_is_record (defScope s__law_is_record) := ⟨rfl, rfl, rfl, by decide +kernel, rfl, by decide +kernel, by decide +kernel⟩
abbrev s__law_side : Stmt := topS 38
abbrev N__law_side : List Str := ["_law_parents_here", "_law_kinds_here", "_law_field", "_law_older", "_law_newer", "_law_place"]
abbrev P__law_side : List Str := ["_law_parents_here", "_law_kinds_here", "_law_field", "_law_older", "_law_newer"]
theorem sc__law_side : FnScope N__law_side P__law_side (defScope s__law_side) := ⟨rfl, rfl, rfl, by decide +kernel, rfl, by decide +kernel, by decide +kernel⟩
abbrev s__law_merge : Stmt := topS 39
abbrev N__law_merge : List Str := ["_law_parents_here", "_law_kinds_here", "_law_older", "_law_newer", "_law_pair", "_law_f"]
abbrev P__law_merge : List Str := ["_law_parents_here", "_law_kinds_here", "_law_older", "_law_newer"]
theorem sc__law_merge : FnScope N__law_merge P__law_merge (defScope s__law_merge) := ⟨rfl, rfl, rfl, by decide +kernel, rfl, by decide +kernel, by decide +kernel⟩
abbrev s__law_answers : Stmt := topS 47
abbrev N__law_answers : List Str := ["_law_forest", "_law_parents_here", "_law_kinds_here", "_law_older", "_law_newer", "_law_field", "_law_told", "_law_actual"]
abbrev P__law_answers : List Str := ["_law_forest", "_law_parents_here", "_law_kinds_here", "_law_older", "_law_newer"]
theorem sc__law_answers : FnScope N__law_answers P__law_answers (defScope s__law_answers) := ⟨rfl, rfl, rfl, by decide +kernel, rfl, by decide +kernel, by decide +kernel⟩
abbrev s__law_merged : Stmt := topS 44
abbrev N__law_merged : List Str := ["_law_forest", "_law_older", "_law_newer", "_law_actual", "e", "_law_kin"]
abbrev P__law_merged : List Str := ["_law_forest", "_law_older", "_law_newer"]
theorem sc__law_merged : FnScope N__law_merged P__law_merged (defScope s__law_merged) := ⟨rfl, rfl, rfl, by decide +kernel, rfl, by decide +kernel, by decide +kernel⟩
abbrev s__law_first : Stmt := topS 43
abbrev N__law_first : List Str := ["_law_forest", "_law_field", "_law_first_here", "_law_second", "_law_actual", "e", "_law_kin", "why"]
abbrev P__law_first : List Str := ["_law_forest", "_law_field", "_law_first_here", "_law_second"]
theorem sc__law_first : FnScope N__law_first P__law_first (defScope s__law_first) := ⟨rfl, rfl, rfl, by decide +kernel, rfl, by decide +kernel, by decide +kernel⟩
abbrev s__law_refuses : Stmt := topS 46
abbrev N__law_refuses : List Str := ["_law_forest", "_law_parents_here", "_law_kinds_here", "_law_tape_here", "_law_pair", "_law_n", "_law_field", "_law_due", "_law_given", "_law_record_here", "_law_pick", "_law_told", "_law_turn"]
abbrev P__law_refuses : List Str := ["_law_forest", "_law_parents_here", "_law_kinds_here", "_law_tape_here", "_law_pair"]
theorem sc__law_refuses : FnScope N__law_refuses P__law_refuses (defScope s__law_refuses) := ⟨rfl, rfl, rfl, by decide +kernel, rfl, by decide +kernel, by decide +kernel⟩
abbrev s_better : Stmt := topS 13
abbrev N_better : List Str := ["kind", "value", "other"]
abbrev P_better : List Str := ["kind", "value", "other"]
theorem sc_better : FnScope N_better P_better (defScope s_better) := ⟨rfl, rfl, rfl, by decide +kernel, rfl, by decide +kernel, by decide +kernel⟩
abbrev s_raised : Stmt := topS 14
abbrev N_raised : List Str := ["kind", "value", "by"]
abbrev P_raised : List Str := ["kind", "value", "by"]
theorem sc_raised : FnScope N_raised P_raised (defScope s_raised) := ⟨rfl, rfl, rfl, by decide +kernel, rfl, by decide +kernel, by decide +kernel⟩
abbrev s__law_values : Stmt := topS 48
abbrev N__law_values : List Str := ["_law_tape_here", "_law_one", "_law_two", "_law_amount", "_law_kind", "_law_due", "_law_told", "_law_k", "_law_sum_due"]
abbrev P__law_values : List Str := ["_law_tape_here"]
theorem sc__law_values : FnScope N__law_values P__law_values (defScope s__law_values) := ⟨rfl, rfl, rfl, by decide +kernel, rfl, by decide +kernel, by decide +kernel⟩
abbrev s_law : Stmt := topS 49
abbrev N_law : List Str := ["_law_script", "_law_sizes", "_law_n", "_law_shapes", "_law_k", "_law_parents_here", "_law_older", "_law_newer", "_law_alike", "_law_path_here", "_law_row", "_law_place", "_law_forests", "_law_shape", "_law_pair", "_law_tape_here"]
abbrev P_law : List Str := ["_law_script"]
theorem sc_law : FnScope N_law P_law (defScope s_law) := ⟨rfl, rfl, rfl, by decide +kernel, rfl, by decide +kernel, by decide +kernel⟩
abbrev s_BadForest____init__ : Stmt := inClass (topS 5) 0
abbrev N_BadForest____init__ : List Str := ["self", "field"]
abbrev P_BadForest____init__ : List Str := ["self", "field"]
theorem sc_BadForest____init__ : FnScope N_BadForest____init__ P_BadForest____init__ (defScope s_BadForest____init__) := ⟨rfl, rfl, rfl, by decide +kernel, rfl, by decide +kernel, by decide +kernel⟩
abbrev s_BadPlace____init__ : Stmt := inClass (topS 7) 0
abbrev N_BadPlace____init__ : List Str := ["self", "place"]
abbrev P_BadPlace____init__ : List Str := ["self", "place"]
theorem sc_BadPlace____init__ : FnScope N_BadPlace____init__ P_BadPlace____init__ (defScope s_BadPlace____init__) := ⟨rfl, rfl, rfl, by decide +kernel, rfl, by decide +kernel, by decide +kernel⟩
abbrev s_BadRecord____init__ : Stmt := inClass (topS 3) 0
abbrev N_BadRecord____init__ : List Str := ["self", "record"]
abbrev P_BadRecord____init__ : List Str := ["self", "record"]
theorem sc_BadRecord____init__ : FnScope N_BadRecord____init__ P_BadRecord____init__ (defScope s_BadRecord____init__) := ⟨rfl, rfl, rfl, by decide +kernel, rfl, by decide +kernel, by decide +kernel⟩
structure Bts (mg : Str → Option Value) : Prop where
  ValueError_ : mg "ValueError" = none
  abs_ : mg "abs" = none
  bool_ : mg "bool" = none
  enumerate_ : mg "enumerate" = none
  int_ : mg "int" = none
  isinstance_ : mg "isinstance" = none
  len_ : mg "len" = none
  list_ : mg "list" = none
  range_ : mg "range" = none
  tuple_ : mg "tuple" = none
  zip_ : mg "zip" = none
structure Gcs (T : Tb) (w : World) (mg : Str → Option Value) : Prop where
  MOST_FIELDS_ : ∃ t, mg "MOST_FIELDS" = some (.int 16 t)
  SIDES_ : KD T w mg "SIDES" tab_SIDES
structure TC_Forest (T : Tb) (mg : Str → Option Value) : Prop where
  cl : Cls T.K (T.ca "Forest")
  fl : T.flds "Forest" = (["fields", "parents", "kinds"] : List Str)
  n_fields : NoAttr T.K (T.ca "Forest") "fields"
  n_parents : NoAttr T.K (T.ca "Forest") "parents"
  n_kinds : NoAttr T.K (T.ca "Forest") "kinds"
  g : mg "Forest" = some (.ref (T.ca "Forest"))
structure XE (P : Program) (w : World) (mg : Str → Option Value) (base : Heap) (T : Tb) (c : String) (x nm : Str) (ok : V → Prop) : Prop where
  d : My.DnE P w T.K mg base 1 x (T.ca c) (My.spErr1 ok nm (T.ca c))
  fl : T.flds c = ([nm] : List Str)
structure Env (P : Program) (w : World) (mg : Str → Option Value) (base : Heap) (T : Tb) : Prop where
  B : Bts mg
  Gc : Gcs T w mg
  T_Forest : TC_Forest T mg
  X_BadForest : XE P w mg base T "BadForest" "BadForest" "field" My.FmtOk
  X_BadPlace : XE P w mg base T "BadPlace" "BadPlace" "place" My.FmtOk
  X_BadRecord : XE P w mg base T "BadRecord" "BadRecord" "record" (fun _ => True)
  MG_BadForest : mg "BadForest" = some (.ref (T.ca "BadForest"))
  MG_BadNumber : mg "BadNumber" = some (.ref (T.ca "BadNumber"))
  MG_BadPlace : mg "BadPlace" = some (.ref (T.ca "BadPlace"))
  MG_BadRecord : mg "BadRecord" = some (.ref (T.ca "BadRecord"))
  MG_BadSizes : mg "BadSizes" = some (.ref (T.ca "BadSizes"))
  MG_FieldridesError : mg "FieldridesError" = some (.ref (T.ca "FieldridesError"))
  MG_Marked : mg "Marked" = some (.ref (T.ca "Marked"))
  MG_NoRecord : mg "NoRecord" = some (.ref (T.ca "NoRecord"))
  E : ErrF T known flsE ktab ftab
  exm_BadPlace : ∀ c b, kin_BadPlace c = some b → PySem.W.exmOne T.K (.ref (T.ca c)) (.ref (T.ca "BadPlace")) = some b
  exm_BadRecord : ∀ c b, kin_BadRecord c = some b → PySem.W.exmOne T.K (.ref (T.ca c)) (.ref (T.ca "BadRecord")) = some b
section
variable {P : Program} {w : World} {mg : Str → Option Value} {base : Heap} {T : Tb}
set_option maxHeartbeats 2000000 in
theorem d__law_tape (U : Env P w mg base T)  (F : My.Df T.K mg "_law_tape" s__law_tape P__law_tape) : My.DnX P w T.K mg base 1 "_law_tape" (spF T F__law_tape) :=
  okV F sc__law_tape (by decide) <| fun fa cdv A outer s H vs E hr => (bv_cons (sv_if (tv_cmp op_lt v_lt (evn 1) (ev_fn c_len f_len rfl U.B.len_ PySem.boot_len (av_cons (evn 0) av_nil))) (bv_one (sv_ret (ev_lst (av_cons (ev_fn call_abs f_abs rfl U.B.abs_ boot_abs (av_cons (ev_ix ix_seqA v_ix (evn 0) (evn 1) (fun _ _ => rfl)) av_nil)) (av_cons ev_int av_nil))))) bv_nil)
    (bv_one (sv_ret (ev_lst (av_cons (evn 1) (av_cons ev_int av_nil))))))
set_option maxHeartbeats 2000000 in
theorem d__law_take (U : Env P w mg base T)  (F : My.Df T.K mg "_law_take" s__law_take P__law_take) : My.DnX P w T.K mg base 1 "_law_take" (spF T F__law_take) :=
  okV F sc__law_take (by decide) <| fun fa cdv A outer s H vs E hr => (bv_cons (sv_set (i := 2) sc__law_take.nd rfl (.inl rfl) (ev_ix ix_seqA v_ix (evn 0) ev_int (fun _ _ => rfl)))
    (bv_cons (sv_sub (ev_op o_add v_add (ev_ix ix_seqA v_ix (evn 0) ev_int (fun _ _ => rfl)) ev_int) (evn 0) ev_int)
    (bv_cons (sv_set (i := 3) sc__law_take.nd rfl (.inl rfl) (ev_ix ix_seqA v_ix (evn 0) ev_int (fun _ _ => rfl)))
    (bv_cons (sv_if (tv_cmp op_ge v_ge (evn 2) (ev_op op_pow v_pow ev_int ev_int)) (bv_cons (sv_sub (ev_op op_fdiv v_div (evn 2) (evn 1)) (evn 0) ev_int)
    (bv_one (sv_ret (ev_op op_mod v_mod (ev_ty call_int1 f_int rfl U.B.int_ boot_int (av_cons (evn 2) av_nil)) (evn 1))))) bv_nil)
    (bv_cons (sv_set (i := 4) sc__law_take.nd rfl (.inl rfl) (ev_op op_mod v_mod (ev_ty call_int1 f_int rfl U.B.int_ boot_int (av_cons (ev_op o_add v_add (ev_op o_add v_add (evn 2) (ev_op o_mul v_mul ev_int (evn 3))) ev_int) av_nil)) ev_int))
    (bv_cons (sv_set (i := 4) sc__law_take.nd rfl (.inl rfl) (ev_op op_mod v_mod (ev_ty call_int1 f_int rfl U.B.int_ boot_int (av_cons (ev_op o_mul v_mul (evn 4) (ev_op o_add v_add (evn 4) ev_int)) av_nil)) ev_int))
    (bv_cons (sv_set (i := 4) sc__law_take.nd rfl (.inl rfl) (ev_op op_mod v_mod (ev_ty call_int1 f_int rfl U.B.int_ boot_int (av_cons (ev_op o_add v_add (ev_op o_mul v_mul (evn 4) (ev_op o_add v_add (evn 4) ev_int)) (ev_op o_mul v_mul ev_int (evn 3))) av_nil)) ev_int))
    (bv_one (sv_ret (ev_op op_mod v_mod (ev_ty call_int1 f_int rfl U.B.int_ boot_int (av_cons (ev_op op_fdiv v_div (evn 4) ev_int) av_nil)) (evn 1)))))))))))
set_option maxHeartbeats 2000000 in
theorem d__law_turns (U : Env P w mg base T) (D__law_take : My.DnX P w T.K mg base 1 "_law_take" (spF T F__law_take)) (F : My.Df T.K mg "_law_turns" s__law_turns P__law_turns) : My.DnX P w T.K mg base 2 "_law_turns" (spF T F__law_turns) :=
  okV F sc__law_turns (by decide) <| fun fa cdv A outer s H vs E hr => (bv_cons (sv_set (i := 2) sc__law_turns.nd rfl (.inl rfl) (ev_listRg rfl rfl U.B.list_ rfl U.B.range_ (evn 1)))
    (bv_cons (sv_set (i := 3) sc__law_turns.nd rfl (.inl rfl) (ev_lst av_nil))
    (bv_cons (sv_for (passes_of rfl) rfl (iv_rg1 rfl U.B.range_ (av_cons (evn 1) av_nil)) (gv_name (i := 4) sc__law_turns.nd rfl (.inl rfl)) (bv_one (sv_expr (ev_mu rfl PySem.F.plainAttrs_list PySem.F.slot_list_append PySem.F.type_list_append (by decide) mt_append u_append (evn 3) (av_cons (ev_mu rfl PySem.F.plainAttrs_list PySem.F.slot_list_pop PySem.F.type_list_pop (by decide) mt_popAt u_pop1 (evn 2) (av_cons (ev_call D__law_take (hr.mono (by decide)) rfl (takes_of rfl rfl rfl rfl) (av_cons (evn 0) (av_cons (ev_fn c_len f_len rfl U.B.len_ PySem.boot_len (av_cons (evn 2) av_nil)) av_nil))) av_nil)) av_nil)))))
    (bv_one (sv_ret (evn 3))))))
set_option maxHeartbeats 2000000 in
theorem d__law_parents (U : Env P w mg base T) (D__law_turns : My.DnX P w T.K mg base 2 "_law_turns" (spF T F__law_turns)) (D__law_take : My.DnX P w T.K mg base 1 "_law_take" (spF T F__law_take)) (F : My.Df T.K mg "_law_parents" s__law_parents P__law_parents) : My.DnX P w T.K mg base 3 "_law_parents" (spF T F__law_parents) :=
  okV F sc__law_parents (by decide) <| fun fa cdv A outer s H vs E hr => (bv_cons (sv_set (i := 2) sc__law_parents.nd rfl (.inl rfl) (ev_call D__law_turns (hr.mono (by decide)) rfl (takes_of rfl rfl rfl rfl) (av_cons (evn 0) (av_cons (evn 1) av_nil))))
    (bv_cons (sv_set (i := 3) sc__law_parents.nd rfl (.inl rfl) (ev_call D__law_take (hr.mono (by decide)) rfl (takes_of rfl rfl rfl rfl) (av_cons (evn 0) (av_cons ev_int av_nil))))
    (bv_cons (sv_setLc (i := 4) (own := [("_law_k", 5)]) rfl sc__law_parents.nd rfl rfl (sw_true rfl rfl rfl (by decide +kernel)) rfl (by decide) (iv_rg1 rfl U.B.range_ (av_cons (evn 1) av_nil)) (blkOk_by (own := [("_law_k", 5)]) (N := N__law_parents) (sc := defScope s__law_parents) (by decide +kernel)) (fun _ _ _ _ _ => (gv_name (i := 5) sc__law_parents.nd rfl (.inl rfl))) (fun _ _ _ _ _ => ptsv_nil) (fun _ _ _ _ _ => ev_non))
    (bv_cons (sv_for (passes_of rfl) rfl (iv_rg2 rfl U.B.range_ (av_cons ev_int (av_cons (evn 1) av_nil))) (gv_name (i := 5) sc__law_parents.nd rfl (.inl rfl)) (bv_cons (sv_set (i := 6) sc__law_parents.nd rfl (.inl rfl) (ev_call D__law_take (hr.mono (by decide)) rfl (takes_of rfl rfl rfl rfl) (av_cons (evn 0) (av_cons (ev_op o_add v_add (evn 5) ev_int) av_nil))))
    (bv_cons (sv_if (tv_cmp (op_eqD hr.units) v_eq (evn 3) ev_int) (bv_one (sv_set (i := 6) sc__law_parents.nd rfl (.inl rfl) (evn 5))) bv_nil)
    (bv_cons (sv_if (tv_cmp (op_eqD hr.units) v_eq (evn 3) ev_int) (bv_one (sv_set (i := 6) sc__law_parents.nd rfl (.inl rfl) ev_int)) bv_nil)
    (bv_one (sv_if (tv_cmp op_gt v_gt (evn 6) ev_int) (bv_one (sv_sub (ev_ix ix_seqA v_ix (evn 2) (ev_op op_sub v_sub (evn 6) ev_int) (fun _ _ => rfl)) (evn 4) (ev_ix ix_seqA v_ix (evn 2) (evn 5) (fun _ _ => rfl)))) bv_nil))))))
    (bv_one (sv_ret (evn 4)))))))
set_option maxHeartbeats 2000000 in
theorem d__law_kinds (U : Env P w mg base T) (D__law_take : My.DnX P w T.K mg base 1 "_law_take" (spF T F__law_take)) (F : My.Df T.K mg "_law_kinds" s__law_kinds P__law_kinds) : My.DnX P w T.K mg base 2 "_law_kinds" (spF T F__law_kinds) :=
  okV F sc__law_kinds (by decide) <| fun fa cdv A outer s H vs E hr => (bv_cons (sv_set (i := 3) sc__law_kinds.nd rfl (.inl rfl) (ev_lst av_nil))
    (bv_cons (sv_for (passes_of rfl) rfl (iv_rg1 rfl U.B.range_ (av_cons (ev_fn c_len f_len rfl U.B.len_ PySem.boot_len (av_cons (evn 1) av_nil)) av_nil)) (gv_name (i := 4) sc__law_kinds.nd rfl (.inl rfl)) (bv_cons (sv_set (i := 5) sc__law_kinds.nd rfl (.inl rfl) (ev_call D__law_take (hr.mono (by decide)) rfl (takes_of rfl rfl rfl rfl) (av_cons (evn 0) (av_cons ev_int av_nil))))
    (bv_cons (sv_if (tv_w (wv_or (tv_e rfl (evn 2)) (wv_or1 (tv_cmp (o_in (hu65 hr)) v_in (evn 4) (evn 1))))) (bv_one (sv_set (i := 5) sc__law_kinds.nd rfl (.inl rfl) (ev_op op_mod v_mod (ev_ty call_int1 f_int rfl U.B.int_ boot_int (av_cons (evn 5) av_nil)) ev_int))) bv_nil)
    (bv_one (sv_expr (ev_mu rfl PySem.F.plainAttrs_list PySem.F.slot_list_append PySem.F.type_list_append (by decide) mt_append u_append (evn 3) (av_cons (ev_ix ix_seqA v_ix (ev_lst (av_cons ev_str (av_cons ev_str (av_cons ev_str (av_cons ev_str av_nil))))) (evn 5) (fun _ _ => rfl)) av_nil)))))))
    (bv_one (sv_ret (evn 3)))))
set_option maxHeartbeats 2000000 in
theorem d__law_value (U : Env P w mg base T) (D__law_take : My.DnX P w T.K mg base 1 "_law_take" (spF T F__law_take)) (F : My.Df T.K mg "_law_value" s__law_value P__law_value) : My.DnX P w T.K mg base 2 "_law_value" (spF T F__law_value) :=
  okV F sc__law_value (by decide) <| fun fa cdv A outer s H vs E hr => (bv_cons (sv_set (i := 2) sc__law_value.nd rfl (.inl rfl) (ev_call D__law_take (hr.mono (by decide)) rfl (takes_of rfl rfl rfl rfl) (av_cons (evn 0) (av_cons ev_int av_nil))))
    (bv_cons (sv_if (tv_cmp (op_eqD hr.units) v_eq (evn 2) ev_int) (bv_one (sv_ret (ev_op op_sub v_sub (ev_op o_mul v_mul (ev_call D__law_take (hr.mono (by decide)) rfl (takes_of rfl rfl rfl rfl) (av_cons (evn 0) (av_cons (ev_op op_pow v_pow ev_int ev_int) av_nil))) (ev_op op_pow v_pow ev_int ev_int)) (ev_call D__law_take (hr.mono (by decide)) rfl (takes_of rfl rfl rfl rfl) (av_cons (evn 0) (av_cons (ev_op op_pow v_pow ev_int ev_int) av_nil)))))) bv_nil)
    (bv_cons (sv_if (tv_cmp (op_eqD hr.units) v_eq (evn 2) ev_int) (bv_one (sv_ret (ev_op op_sub v_sub ev_int (ev_call D__law_take (hr.mono (by decide)) rfl (takes_of rfl rfl rfl rfl) (av_cons (evn 0) (av_cons (evn 1) av_nil)))))) bv_nil)
    (bv_one (sv_ret (ev_call D__law_take (hr.mono (by decide)) rfl (takes_of rfl rfl rfl rfl) (av_cons (evn 0) (av_cons (evn 1) av_nil))))))))
set_option maxHeartbeats 2000000 in
theorem d__law_record (U : Env P w mg base T) (D__law_value : My.DnX P w T.K mg base 2 "_law_value" (spF T F__law_value)) (F : My.Df T.K mg "_law_record" s__law_record P__law_record) : My.DnX P w T.K mg base 3 "_law_record" (spF T F__law_record) :=
  okV F sc__law_record (by decide) <| fun fa cdv A outer s H vs E hr => (bv_one (sv_ret (ev_ty call_tuple_of f_tuple rfl U.B.tuple_ boot_tuple (av_cons (ev_lc (own := [("_law_k", 3)]) rfl sc__law_record.nd rfl (by decide) (iv_rg1 rfl U.B.range_ (av_cons (evn 1) av_nil)) (blkOk_by (own := [("_law_k", 3)]) (N := N__law_record) (sc := defScope s__law_record) (by decide +kernel)) (fun _ _ _ _ _ => (gv_name (i := 3) sc__law_record.nd rfl (.inl rfl))) (fun _ _ _ _ _ => ptsv_nil) (fun _ _ _ _ _ => (ev_call D__law_value (hr.mono (by decide)) rfl takes0 (av_cons (evn 0) (av_cons (evn 2) av_nil))))) av_nil))))
set_option maxHeartbeats 2000000 in
theorem d__law_path (U : Env P w mg base T)  (F : My.Df T.K mg "_law_path" s__law_path P__law_path) : My.DnX P w T.K mg base 1 "_law_path" (spF T F__law_path) :=
  okV F sc__law_path (by decide) <| fun fa cdv A outer s H vs E hr => (bv_cons (sv_set (i := 2) sc__law_path.nd rfl (.inl rfl) (ev_lst (av_cons (evn 1) av_nil)))
    (bv_cons (sv_for (passes_of rfl) rfl (iv_rg1 rfl U.B.range_ (av_cons (ev_fn c_len f_len rfl U.B.len_ PySem.boot_len (av_cons (evn 0) av_nil)) av_nil)) (gv_name (i := 3) sc__law_path.nd rfl (.inl rfl)) (bv_one (sv_if (tv_cmp op_notN v_isn (ev_ix ix_seqA v_ix (evn 0) (ev_ix ix_seqA v_ix (evn 2) ev_int (fun _ _ => rfl)) (fun _ _ => rfl)) ev_non) (bv_one (sv_expr (ev_mu rfl PySem.F.plainAttrs_list PySem.F.slot_list_insert PySem.F.type_list_insert (by decide) mt_insert u_insert (evn 2) (av_cons ev_int (av_cons (ev_ix ix_seqA v_ix (evn 0) (ev_ix ix_seqA v_ix (evn 2) ev_int (fun _ _ => rfl)) (fun _ _ => rfl)) av_nil))))) bv_nil)))
    (bv_one (sv_ret (evn 2)))))
set_option maxHeartbeats 2000000 in
theorem d_way_ends (U : Env P w mg base T)  (F : My.Df T.K mg "way_ends" s_way_ends P_way_ends) : My.DnX P w T.K mg base 1 "way_ends" (spF T F_way_ends) :=
  okV F sc_way_ends (by decide) <| fun fa cdv A outer s H vs E hr => (bv_cons (sv_forN (passes_of rfl) rfl rfl (evn 0) (gv_name (i := 2) sc_way_ends.nd rfl (.inl rfl)) (bv_cons (sv_if (tv_cmp op_isN v_is (evn 1) ev_non) (bv_one (sv_ret ev_bl)) bv_nil)
    (bv_one (sv_set (i := 1) sc_way_ends.nd rfl (.inl rfl) (ev_ix ix_seqA v_ix (evn 0) (evn 1) (fun _ _ => rfl))))))
    (bv_one (sv_ret (ev_cmp op_isN v_is (evn 1) ev_non))))
set_option maxHeartbeats 2000000 in
theorem d_is_ranked (U : Env P w mg base T)  (F : My.Df T.K mg "is_ranked" s_is_ranked P_is_ranked) : My.DnX P w T.K mg base 1 "is_ranked" (spF T F_is_ranked) :=
  okV F sc_is_ranked (by decide) <| fun fa cdv A outer s H vs E hr => (bv_one (sv_ret (ev_or (ev_cmp (op_eqD hr.units) v_eq (evn 0) ev_str) (ev_one (ev_cmp (op_eqD hr.units) v_eq (evn 0) ev_str)))))
set_option maxHeartbeats 2000000 in
theorem d_check_forest (U : Env P w mg base T) (D_way_ends : My.DnX P w T.K mg base 1 "way_ends" (spF T F_way_ends)) (D_is_ranked : My.DnX P w T.K mg base 1 "is_ranked" (spF T F_is_ranked)) (F : My.Df T.K mg "check_forest" s_check_forest P_check_forest) : My.DnX P w T.K mg base 3 "check_forest" (spF T F_check_forest) :=
  okV F sc_check_forest (by decide) <| fun fa cdv A outer s H vs E hr => (bv_cons (sv_set (i := 2) sc_check_forest.nd rfl (.inl rfl) (ev_fn c_len f_len rfl U.B.len_ PySem.boot_len (av_cons (evn 0) av_nil)))
    (bv_cons (sv_if (tv_w (wv_or (tv_cmp (op_neD hr.units) v_ne (evn 2) (ev_fn c_len f_len rfl U.B.len_ PySem.boot_len (av_cons (evn 1) av_nil))) (wv_or (tv_cmp op_lt v_lt (evn 2) ev_int) (wv_or1 (tv_cmp op_gt v_gt (evn 2) (ev_globI rfl U.Gc.MOST_FIELDS_)))))) (bv_one (sv_raise1 fmt_ok rfl (takes_of rfl rfl rfl rfl) U.X_BadForest.d (hr.mono (by decide)) rfl U.X_BadForest.fl (av_cons ev_non av_nil))) bv_nil)
    (bv_cons (sv_forE (passes_of rfl) rfl rfl rfl U.B.enumerate_ (evn 0) (gv_tup rfl rfl (gsv_cons (gv_name (i := 3) sc_check_forest.nd rfl (.inl rfl)) (gsv_cons (gv_name (i := 4) sc_check_forest.nd rfl (.inl rfl)) gsv_nil)) rfl) (bv_one (sv_if (tv_w (wv_and (tv_cmp op_notN v_isn (evn 4) ev_non) (wv_and1 (tv_w (wv_or (tv_cmp op_lt v_lt (evn 4) ev_int) (wv_or1 (tv_cmp op_ge v_ge (evn 4) (evn 2)))))))) (bv_one (sv_raise1 fmt_ok rfl (takes_of rfl rfl rfl rfl) U.X_BadForest.d (hr.mono (by decide)) rfl U.X_BadForest.fl (av_cons (evn 3) av_nil))) bv_nil)))
    (bv_cons (sv_for (passes_of rfl) rfl (iv_rg1 rfl U.B.range_ (av_cons (evn 2) av_nil)) (gv_name (i := 3) sc_check_forest.nd rfl (.inl rfl)) (bv_one (sv_if (tv_not (tv_e rfl (ev_call D_way_ends (hr.mono (by decide)) rfl (takes_of rfl rfl rfl rfl) (av_cons (evn 0) (av_cons (evn 3) av_nil))))) (bv_one (sv_raise1 fmt_ok rfl (takes_of rfl rfl rfl rfl) U.X_BadForest.d (hr.mono (by decide)) rfl U.X_BadForest.fl (av_cons (evn 3) av_nil))) bv_nil)))
    (bv_one (sv_forE (passes_of rfl) rfl rfl rfl U.B.enumerate_ (evn 1) (gv_tup rfl rfl (gsv_cons (gv_name (i := 3) sc_check_forest.nd rfl (.inl rfl)) (gsv_cons (gv_name (i := 5) sc_check_forest.nd rfl (.inl rfl)) gsv_nil)) rfl) (bv_one (sv_if (tv_w (wv_and (tv_not (tv_e rfl (ev_call D_is_ranked (hr.mono (by decide)) rfl (takes_of rfl rfl rfl rfl) (av_cons (evn 5) av_nil)))) (wv_and1 (tv_cmp (o_in (hu65 hr)) v_in (evn 3) (evn 0))))) (bv_one (sv_raise1 fmt_ok rfl (takes_of rfl rfl rfl rfl) U.X_BadForest.d (hr.mono (by decide)) rfl U.X_BadForest.fl (av_cons (evn 3) av_nil))) bv_nil))))))))
set_option maxHeartbeats 2000000 in
theorem d_Forest____init__ (U : Env P w mg base T) (D_check_forest : My.DnX P w T.K mg base 3 "check_forest" (spF T F_check_forest)) (F : My.DfI T.K mg "Forest" (T.ca "Forest") "Forest.__init__" s_Forest____init__ P_Forest____init__) : My.DnIX P w T.K mg base 4 "Forest" (T.ca "Forest") (spF T F_Forest____init__) :=
  okVI F sc_Forest____init__ (by decide) <| fun fa cdv A outer s H vs E hr => (bv_cons (sv_expr (ev_call D_check_forest (hr.mono (by decide)) rfl (takes_of rfl rfl rfl rfl) (av_cons (evn 1) (av_cons (evn 2) av_nil))))
    (bv_cons (sv_at rfl U.T_Forest.cl U.T_Forest.n_fields (by rw [U.T_Forest.fl]; rfl) (by rw [U.T_Forest.fl]; decide) (by rw [U.T_Forest.fl]; decide) (evn 0) (ev_fn c_len f_len rfl U.B.len_ PySem.boot_len (av_cons (evn 1) av_nil)))
    (bv_cons (sv_at rfl U.T_Forest.cl U.T_Forest.n_parents (by rw [U.T_Forest.fl]; rfl) (by rw [U.T_Forest.fl]; decide) (by rw [U.T_Forest.fl]; decide) (evn 0) (ev_ty call_tuple_of f_tuple rfl U.B.tuple_ boot_tuple (av_cons (evn 1) av_nil)))
    (bv_one (sv_at rfl U.T_Forest.cl U.T_Forest.n_kinds (by rw [U.T_Forest.fl]; rfl) (by rw [U.T_Forest.fl]; decide) (by rw [U.T_Forest.fl]; decide) (evn 0) (ev_ty call_tuple_of f_tuple rfl U.B.tuple_ boot_tuple (av_cons (evn 2) av_nil)))))))
set_option maxHeartbeats 2000000 in
theorem d_check_place (U : Env P w mg base T)  (F : My.Df T.K mg "check_place" s_check_place P_check_place) : My.DnX P w T.K mg base 3 "check_place" (spF T F_check_place) :=
  okV F sc_check_place (by decide) <| fun fa cdv A outer s H vs E hr => (bv_one (sv_if (tv_w (wv_or (tv_cmp op_lt v_lt (evn 1) ev_int) (wv_or1 (tv_cmp op_ge v_ge (evn 1) (evn 0))))) (bv_one (sv_raise1 fmt_ok rfl (takes_of rfl rfl rfl rfl) U.X_BadPlace.d (hr.mono (by decide)) rfl U.X_BadPlace.fl (av_cons (evn 1) av_nil))) bv_nil))
set_option maxHeartbeats 2000000 in
theorem d_check_record (U : Env P w mg base T)  (F : My.Df T.K mg "check_record" s_check_record P_check_record) : My.DnX P w T.K mg base 3 "check_record" (spF T F_check_record) :=
  okV F sc_check_record (by decide) <| fun fa cdv A outer s H vs E hr => (bv_one (sv_if (tv_cmp (op_neD hr.units) v_ne (ev_fn c_len f_len rfl U.B.len_ PySem.boot_len (av_cons (evn 1) av_nil)) (evn 0)) (bv_one (sv_raise1 (fun _ _ _ _ _ _ _ => trivial) rfl (takes_of rfl rfl rfl rfl) U.X_BadRecord.d (hr.mono (by decide)) rfl U.X_BadRecord.fl (av_cons (evn 1) av_nil))) bv_nil))
set_option maxHeartbeats 2000000 in
theorem d_sign (U : Env P w mg base T)  (F : My.Df T.K mg "sign" s_sign P_sign) : My.DnX P w T.K mg base 1 "sign" (spF T F_sign) :=
  okV F sc_sign (by decide) <| fun fa cdv A outer s H vs E hr => (bv_cons (sv_if (tv_cmp op_lt v_lt (evn 0) (evn 1)) (bv_one (sv_ret (ev_un un_neg v_neg ev_int))) bv_nil)
    (bv_cons (sv_if (tv_cmp op_gt v_gt (evn 0) (evn 1)) (bv_one (sv_ret ev_int)) bv_nil)
    (bv_one (sv_ret ev_int))))
set_option maxHeartbeats 2000000 in
theorem d_signs (U : Env P w mg base T) (D_sign : My.DnX P w T.K mg base 1 "sign" (spF T F_sign)) (F : My.Df T.K mg "signs" s_signs P_signs) : My.DnX P w T.K mg base 3 "signs" (spF T F_signs) :=
  okV F sc_signs (by decide) <| fun fa cdv A outer s H vs E hr => (bv_cons (sv_if (tv_cmp (op_neD hr.units) v_ne (ev_fn c_len f_len rfl U.B.len_ PySem.boot_len (av_cons (evn 0) av_nil)) (ev_fn c_len f_len rfl U.B.len_ PySem.boot_len (av_cons (evn 1) av_nil))) (bv_one (sv_raise1 (fun _ _ _ _ _ _ _ => trivial) rfl (takes_of rfl rfl rfl rfl) U.X_BadRecord.d (hr.mono (by decide)) rfl U.X_BadRecord.fl (av_cons (evn 1) av_nil))) bv_nil)
    (bv_one (sv_ret (ev_ty call_tuple_of f_tuple rfl U.B.tuple_ boot_tuple (av_cons (ev_lc (own := [("value", 2), ("other", 3)]) rfl sc_signs.nd rfl (by decide) (iv_zip rfl rfl U.B.zip_ (av_cons (evn 0) (av_cons (evn 1) av_nil))) (blkOk_by (own := [("value", 2), ("other", 3)]) (N := N_signs) (sc := defScope s_signs) (by decide +kernel)) (fun _ _ _ _ _ => (gv_tup rfl rfl (gsv_cons (gv_name (i := 2) sc_signs.nd rfl (.inl rfl)) (gsv_cons (gv_name (i := 3) sc_signs.nd rfl (.inl rfl)) gsv_nil)) rfl)) (fun _ _ _ _ _ => ptsv_nil) (fun _ _ _ _ _ => (ev_call D_sign (hr.mono (by decide)) rfl takes0 (av_cons (evn 2) (av_cons (evn 3) av_nil))))) av_nil)))))
set_option maxHeartbeats 2000000 in
theorem d_Forest__path (U : Env P w mg base T)  (F : My.DfM T.K (T.ca "Forest") "path" "Forest.path" s_Forest__path P_Forest__path) : My.DnMX P w T.K mg base 1 (T.ca "Forest") "path" (spF T F_Forest__path) :=
  okVM F sc_Forest__path (by decide) <| fun fa cdv A outer s H vs E hr => (bv_cons (sv_set (i := 2) sc_Forest__path.nd rfl (.inl rfl) (ev_tup (av_cons (evn 1) av_nil)))
    (bv_cons (sv_while (passes_of rfl) (tv_cmp op_notN v_isn (ev_ix ix_seqA v_ix (ev_at rfl U.T_Forest.cl U.T_Forest.n_parents (by rw [U.T_Forest.fl]; rfl) (by rw [U.T_Forest.fl]; decide) (evn 0)) (ev_ix ix_seqA v_ix (evn 2) ev_int (fun _ _ => rfl)) (fun _ _ => rfl)) ev_non) (bv_one (sv_set (i := 2) sc_Forest__path.nd rfl (.inl rfl) (ev_op o_add v_add (ev_tup (av_cons (ev_ix ix_seqA v_ix (ev_at rfl U.T_Forest.cl U.T_Forest.n_parents (by rw [U.T_Forest.fl]; rfl) (by rw [U.T_Forest.fl]; decide) (evn 0)) (ev_ix ix_seqA v_ix (evn 2) ev_int (fun _ _ => rfl)) (fun _ _ => rfl)) av_nil)) (evn 2)))))
    (bv_one (sv_ret (evn 2)))))
set_option maxHeartbeats 2000000 in
theorem d_first_marked (U : Env P w mg base T) (D_Forest__path : My.DnMX P w T.K mg base 1 (T.ca "Forest") "path" (spF T F_Forest__path)) (F : My.Df T.K mg "first_marked" s_first_marked P_first_marked) : My.DnX P w T.K mg base 2 "first_marked" (spF T F_first_marked) :=
  okV F sc_first_marked (by decide) <| fun fa cdv A outer s H vs E hr => (bv_cons (sv_for (passes_of rfl) rfl (iv_seq rfl (ev_meth rfl D_Forest__path U.T_Forest.cl (by rw [U.T_Forest.fl]; decide) (hr.mono (by decide)) (takes_of rfl rfl rfl rfl) (evn 0) (av_cons (evn 1) av_nil))) (gv_name (i := 3) sc_first_marked.nd rfl (.inl rfl)) (bv_one (sv_if (tv_cmp (op_neD hr.units) v_ne (ev_ix ix_seqA v_ix (evn 2) (evn 3) (fun _ _ => rfl)) ev_int) (bv_one (sv_ret (evn 3))) bv_nil)))
    (bv_one (sv_ret ev_non)))
set_option maxHeartbeats 2000000 in
theorem d_first_unlike (U : Env P w mg base T) (D_check_place : My.DnX P w T.K mg base 3 "check_place" (spF T F_check_place)) (D_check_record : My.DnX P w T.K mg base 3 "check_record" (spF T F_check_record)) (D_signs : My.DnX P w T.K mg base 3 "signs" (spF T F_signs)) (D_first_marked : My.DnX P w T.K mg base 2 "first_marked" (spF T F_first_marked)) (F : My.Df T.K mg "first_unlike" s_first_unlike P_first_unlike) : My.DnX P w T.K mg base 4 "first_unlike" (spF T F_first_unlike) :=
  okV F sc_first_unlike (by decide) <| fun fa cdv A outer s H vs E hr => (bv_cons (sv_expr (ev_call D_check_place (hr.mono (by decide)) rfl (takes_of rfl rfl rfl rfl) (av_cons (ev_at rfl U.T_Forest.cl U.T_Forest.n_fields (by rw [U.T_Forest.fl]; rfl) (by rw [U.T_Forest.fl]; decide) (evn 0)) (av_cons (evn 1) av_nil))))
    (bv_cons (sv_expr (ev_call D_check_record (hr.mono (by decide)) rfl (takes_of rfl rfl rfl rfl) (av_cons (ev_at rfl U.T_Forest.cl U.T_Forest.n_fields (by rw [U.T_Forest.fl]; rfl) (by rw [U.T_Forest.fl]; decide) (evn 0)) (av_cons (evn 2) av_nil))))
    (bv_cons (sv_expr (ev_call D_check_record (hr.mono (by decide)) rfl (takes_of rfl rfl rfl rfl) (av_cons (ev_at rfl U.T_Forest.cl U.T_Forest.n_fields (by rw [U.T_Forest.fl]; rfl) (by rw [U.T_Forest.fl]; decide) (evn 0)) (av_cons (evn 3) av_nil))))
    (bv_one (sv_ret (ev_call D_first_marked (hr.mono (by decide)) rfl (takes_of rfl rfl rfl rfl) (av_cons (evn 0) (av_cons (evn 1) (av_cons (ev_call D_signs (hr.mono (by decide)) rfl (takes_of rfl rfl rfl rfl) (av_cons (evn 2) (av_cons (evn 3) av_nil))) av_nil)))))))))
set_option maxHeartbeats 2000000 in
theorem d__law_unlike (U : Env P w mg base T) (D__law_path : My.DnX P w T.K mg base 1 "_law_path" (spF T F__law_path)) (F : My.Df T.K mg "_law_unlike" s__law_unlike P__law_unlike) : My.DnX P w T.K mg base 2 "_law_unlike" (spF T F__law_unlike) :=
  okV F sc__law_unlike (by decide) <| fun fa cdv A outer s H vs E hr => (bv_cons (sv_for (passes_of rfl) rfl (iv_seq rfl (ev_call D__law_path (hr.mono (by decide)) rfl (takes_of rfl rfl rfl rfl) (av_cons (evn 0) (av_cons (evn 1) av_nil)))) (gv_name (i := 4) sc__law_unlike.nd rfl (.inl rfl)) (bv_one (sv_if (tv_cmp (op_neD hr.units) v_ne (ev_ix ix_seqA v_ix (evn 2) (evn 4) (fun _ _ => rfl)) (ev_ix ix_seqA v_ix (evn 3) (evn 4) (fun _ _ => rfl))) (bv_one (sv_ret (evn 4))) bv_nil)))
    (bv_one (sv_ret ev_non)))
set_option maxHeartbeats 2000000 in
theorem d__law_is_integer (U : Env P w mg base T)  (F : My.Df T.K mg "_law_is_integer" s__law_is_integer P__law_is_integer) : My.DnX P w T.K mg base 1 "_law_is_integer" (spF T F__law_is_integer) :=
  okV F sc__law_is_integer (by decide) <| fun fa cdv A outer s H vs E hr => (bv_one (sv_ret (ev_and (ev_fn call_isi f_isi rfl U.B.isinstance_ boot_isinstance (av_cons (evn 0) (av_cons (ev_tyN rfl U.B.int_ boot_int) av_nil))) (ev_one (ev_not (ev_fn call_isi f_isi rfl U.B.isinstance_ boot_isinstance (av_cons (evn 0) (av_cons (ev_tyN rfl U.B.bool_ boot_bool) av_nil))))))))
set_option maxHeartbeats 2000000 in
theorem d__law_same (U : Env P w mg base T) (D__law_is_integer : My.DnX P w T.K mg base 1 "_law_is_integer" (spF T F__law_is_integer)) (F : My.Df T.K mg "_law_same" s__law_same P__law_same) : My.DnX P w T.K mg base 2 "_law_same" (spF T F__law_same) :=
  okV F sc__law_same (by decide) <| fun fa cdv A outer s H vs E hr => (bv_cons (sv_if (tv_w (wv_or (tv_not (tv_e rfl (ev_fn call_isi f_isi rfl U.B.isinstance_ boot_isinstance (av_cons (evn 0) (av_cons (ev_tyN rfl U.B.tuple_ boot_tuple) av_nil))))) (wv_or1 (tv_cmp (op_neD hr.units) v_ne (ev_fn c_len f_len rfl U.B.len_ PySem.boot_len (av_cons (evn 0) av_nil)) (ev_fn c_len f_len rfl U.B.len_ PySem.boot_len (av_cons (evn 1) av_nil)))))) (bv_one (sv_ret ev_bl)) bv_nil)
    (bv_cons (sv_for (passes_of rfl) rfl (iv_rg1 rfl U.B.range_ (av_cons (ev_fn c_len f_len rfl U.B.len_ PySem.boot_len (av_cons (evn 1) av_nil)) av_nil)) (gv_name (i := 2) sc__law_same.nd rfl (.inl rfl)) (bv_one (sv_if (tv_cmp op_isN v_is (ev_ix ix_seqA v_ix (evn 1) (evn 2) (fun _ _ => rfl)) ev_non) (bv_one (sv_if (tv_cmp op_notN v_isn (ev_ix ix_seqA v_ix (evn 0) (evn 2) (fun _ _ => rfl)) ev_non) (bv_one (sv_ret ev_bl)) bv_nil)) (bv_one (sv_if (tv_w (wv_or (tv_not (tv_e rfl (ev_call D__law_is_integer (hr.mono (by decide)) rfl (takes_of rfl rfl rfl rfl) (av_cons (ev_ix ix_seqA v_ix (evn 0) (evn 2) (fun _ _ => rfl)) av_nil)))) (wv_or1 (tv_cmp (op_neD hr.units) v_ne (ev_ix ix_seqA v_ix (evn 0) (evn 2) (fun _ _ => rfl)) (ev_ix ix_seqA v_ix (evn 1) (evn 2) (fun _ _ => rfl)))))) (bv_one (sv_ret ev_bl)) bv_nil)))))
    (bv_one (sv_ret ev_bl))))
set_option maxHeartbeats 2000000 in
theorem d_side_by (U : Env P w mg base T)  (F : My.Df T.K mg "side_by" s_side_by P_side_by) : My.DnX P w T.K mg base 1 "side_by" (spF T F_side_by) :=
  okV F sc_side_by (by decide) <| fun fa cdv A outer s H vs E hr => (bv_cons (sv_asg (ev_kd rfl rfl U.Gc.SIDES_ (evn 0)) (gv_tup rfl rfl (gsv_cons (gv_name (i := 2) sc_side_by.nd rfl (.inl rfl)) (gsv_cons (gv_name (i := 3) sc_side_by.nd rfl (.inl rfl)) gsv_nil)) rfl))
    (bv_one (sv_ret (ev_if (tv_cmp op_lt v_lt (evn 1) ev_int) (evn 2) (evn 3)))))
set_option maxHeartbeats 2000000 in
theorem d_forest_side (U : Env P w mg base T) (D_first_marked : My.DnX P w T.K mg base 2 "first_marked" (spF T F_first_marked)) (D_side_by : My.DnX P w T.K mg base 1 "side_by" (spF T F_side_by)) (F : My.Df T.K mg "forest_side" s_forest_side P_forest_side) : My.DnX P w T.K mg base 3 "forest_side" (spF T F_forest_side) :=
  okV F sc_forest_side (by decide) <| fun fa cdv A outer s H vs E hr => (bv_cons (sv_set (i := 3) sc_forest_side.nd rfl (.inl rfl) (ev_call D_first_marked (hr.mono (by decide)) rfl (takes_of rfl rfl rfl rfl) (av_cons (evn 0) (av_cons (evn 1) (av_cons (evn 2) av_nil)))))
    (bv_cons (sv_if (tv_cmp op_isN v_is (evn 3) ev_non) (bv_one (sv_ret ev_str)) bv_nil)
    (bv_one (sv_ret (ev_call D_side_by (hr.mono (by decide)) rfl (takes_of rfl rfl rfl rfl) (av_cons (ev_ix ix_seqA v_ix (ev_at rfl U.T_Forest.cl U.T_Forest.n_kinds (by rw [U.T_Forest.fl]; rfl) (by rw [U.T_Forest.fl]; decide) (evn 0)) (evn 3) (fun _ _ => rfl)) (av_cons (ev_ix ix_seqA v_ix (evn 2) (evn 3) (fun _ _ => rfl)) av_nil)))))))
set_option maxHeartbeats 2000000 in
theorem d_Forest____call__ (U : Env P w mg base T) (D_check_record : My.DnX P w T.K mg base 3 "check_record" (spF T F_check_record)) (D_signs : My.DnX P w T.K mg base 3 "signs" (spF T F_signs)) (D_forest_side : My.DnX P w T.K mg base 3 "forest_side" (spF T F_forest_side)) (F : My.DfO T.K (T.ca "Forest") "Forest.__call__" s_Forest____call__ P_Forest____call__) : My.DnO (L2.CX P w) P w T.K mg base 4 (T.ca "Forest") (spF T F_Forest____call__) :=
  okVO F sc_Forest____call__ (by decide) <| fun fa cdv A outer s H vs E hr => (bv_cons (sv_expr (ev_call D_check_record (hr.mono (by decide)) rfl (takes_of rfl rfl rfl rfl) (av_cons (ev_at rfl U.T_Forest.cl U.T_Forest.n_fields (by rw [U.T_Forest.fl]; rfl) (by rw [U.T_Forest.fl]; decide) (evn 0)) (av_cons (evn 1) av_nil))))
    (bv_cons (sv_expr (ev_call D_check_record (hr.mono (by decide)) rfl (takes_of rfl rfl rfl rfl) (av_cons (ev_at rfl U.T_Forest.cl U.T_Forest.n_fields (by rw [U.T_Forest.fl]; rfl) (by rw [U.T_Forest.fl]; decide) (evn 0)) (av_cons (evn 2) av_nil))))
    (bv_cons (sv_set (i := 3) sc_Forest____call__.nd rfl (.inr rfl) (ev_call D_signs (hr.mono (by decide)) rfl (takes_of rfl rfl rfl rfl) (av_cons (evn 1) (av_cons (evn 2) av_nil))))
    (bv_one (sv_ret (ev_ty call_tuple_of f_tuple rfl U.B.tuple_ boot_tuple (av_cons (ev_lc (own := [("field", 4)]) rfl sc_Forest____call__.nd rfl (by decide) (iv_rg1 rfl U.B.range_ (av_cons (ev_at rfl U.T_Forest.cl U.T_Forest.n_fields (by rw [U.T_Forest.fl]; rfl) (by rw [U.T_Forest.fl]; decide) (evn 0)) av_nil)) (blkOk_by (own := [("field", 4)]) (N := N_Forest____call__) (sc := defScope s_Forest____call__) (by decide +kernel)) (fun _ _ _ _ _ => (gv_name (i := 4) sc_Forest____call__.nd rfl (.inl rfl))) (fun _ _ _ _ _ => ptsv_nil) (fun _ _ _ _ _ => (ev_if (tv_cmp (op_eqD hr.units) v_eq (ev_call D_forest_side (hr.mono (by decide)) rfl takes0 (av_cons (evn 0) (av_cons (evn 4) (av_cons (evn 3) av_nil)))) ev_str) (ev_ix ix_seqA v_ix (evn 2) (evn 4) (fun _ _ => rfl)) (ev_ix ix_seqA v_ix (evn 1) (evn 4) (fun _ _ => rfl))))) av_nil)))))))
set_option maxHeartbeats 2000000 in
theorem d__law_is_record (U : Env P w mg base T) (D__law_is_integer : My.DnX P w T.K mg base 1 "_law_is_integer" (spF T F__law_is_integer)) (F : My.Df T.K mg "_law_is_record" s__law_is_record P__law_is_record) : My.DnX P w T.K mg base 2 "_law_is_record" (spF T F__law_is_record) :=
  okV F sc__law_is_record (by decide) <| fun fa cdv A outer s H vs E hr => (bv_cons (sv_if (tv_w (wv_or (tv_not (tv_e rfl (ev_fn call_isi f_isi rfl U.B.isinstance_ boot_isinstance (av_cons (evn 0) (av_cons (ev_tyN rfl U.B.tuple_ boot_tuple) av_nil))))) (wv_or1 (tv_cmp (op_neD hr.units) v_ne (ev_fn c_len f_len rfl U.B.len_ PySem.boot_len (av_cons (evn 0) av_nil)) (evn 1))))) (bv_one (sv_ret ev_bl)) bv_nil)
    (bv_cons (sv_forN (passes_of rfl) rfl rfl (evn 0) (gv_name (i := 2) sc__law_is_record.nd rfl (.inl rfl)) (bv_one (sv_if (tv_not (tv_e rfl (ev_call D__law_is_integer (hr.mono (by decide)) rfl (takes_of rfl rfl rfl rfl) (av_cons (evn 2) av_nil)))) (bv_one (sv_ret ev_bl)) bv_nil)))
    (bv_one (sv_ret ev_bl))))
set_option maxHeartbeats 2000000 in
theorem d__law_side (U : Env P w mg base T) (D__law_path : My.DnX P w T.K mg base 1 "_law_path" (spF T F__law_path)) (F : My.Df T.K mg "_law_side" s__law_side P__law_side) : My.DnX P w T.K mg base 2 "_law_side" (spF T F__law_side) :=
  okV F sc__law_side (by decide) <| fun fa cdv A outer s H vs E hr => (bv_cons (sv_for (passes_of rfl) rfl (iv_seq rfl (ev_call D__law_path (hr.mono (by decide)) rfl (takes_of rfl rfl rfl rfl) (av_cons (evn 0) (av_cons (evn 2) av_nil)))) (gv_name (i := 5) sc__law_side.nd rfl (.inl rfl)) (bv_one (sv_if (tv_cmp (op_neD hr.units) v_ne (ev_ix ix_seqA v_ix (evn 3) (evn 5) (fun _ _ => rfl)) (ev_ix ix_seqA v_ix (evn 4) (evn 5) (fun _ _ => rfl))) (bv_cons (sv_if (tv_cmp (op_eqD hr.units) v_eq (ev_ix ix_seqA v_ix (evn 1) (evn 5) (fun _ _ => rfl)) ev_str) (bv_one (sv_ret ev_int)) bv_nil)
    (bv_cons (sv_if (tv_cmp (op_eqD hr.units) v_eq (ev_ix ix_seqA v_ix (evn 1) (evn 5) (fun _ _ => rfl)) ev_str) (bv_one (sv_ret ev_int)) bv_nil)
    (bv_one (sv_ret (ev_ty call_int1 f_int rfl U.B.int_ boot_int (av_cons (ev_cmp (op_neD hr.units) v_ne (ev_cmp op_gt v_gt (ev_ix ix_seqA v_ix (evn 3) (evn 5) (fun _ _ => rfl)) (ev_ix ix_seqA v_ix (evn 4) (evn 5) (fun _ _ => rfl))) (ev_cmp (op_eqD hr.units) v_eq (ev_ix ix_seqA v_ix (evn 1) (evn 5) (fun _ _ => rfl)) ev_str)) av_nil)))))) bv_nil)))
    (bv_one (sv_ret ev_int)))
set_option maxHeartbeats 2000000 in
theorem d__law_merge (U : Env P w mg base T) (D__law_side : My.DnX P w T.K mg base 2 "_law_side" (spF T F__law_side)) (F : My.Df T.K mg "_law_merge" s__law_merge P__law_merge) : My.DnX P w T.K mg base 3 "_law_merge" (spF T F__law_merge) :=
  okV F sc__law_merge (by decide) <| fun fa cdv A outer s H vs E hr => (bv_cons (sv_set (i := 4) sc__law_merge.nd rfl (.inr rfl) (ev_lst (av_cons (evn 2) (av_cons (evn 3) av_nil))))
    (bv_one (sv_ret (ev_ty call_tuple_of f_tuple rfl U.B.tuple_ boot_tuple (av_cons (ev_lc (own := [("_law_f", 5)]) rfl sc__law_merge.nd rfl (by decide) (iv_rg1 rfl U.B.range_ (av_cons (ev_fn c_len f_len rfl U.B.len_ PySem.boot_len (av_cons (evn 0) av_nil)) av_nil)) (blkOk_by (own := [("_law_f", 5)]) (N := N__law_merge) (sc := defScope s__law_merge) (by decide +kernel)) (fun _ _ _ _ _ => (gv_name (i := 5) sc__law_merge.nd rfl (.inl rfl))) (fun _ _ _ _ _ => ptsv_nil) (fun _ _ _ _ _ => (ev_ix ix_seqA v_ix (ev_ix ix_seqA v_ix (evn 4) (ev_call D__law_side (hr.mono (by decide)) rfl takes0 (av_cons (evn 0) (av_cons (evn 1) (av_cons (evn 5) (av_cons (evn 2) (av_cons (evn 3) av_nil)))))) (fun _ _ => rfl)) (evn 5) (fun _ _ => rfl)))) av_nil)))))
set_option maxHeartbeats 2000000 in
theorem d__law_answers (U : Env P w mg base T) (D_first_unlike : My.DnX P w T.K mg base 4 "first_unlike" (spF T F_first_unlike)) (D__law_unlike : My.DnX P w T.K mg base 2 "_law_unlike" (spF T F__law_unlike)) (D__law_same : My.DnX P w T.K mg base 2 "_law_same" (spF T F__law_same)) (D_Forest____call__ : My.DnO (L2.CX P w) P w T.K mg base 4 (T.ca "Forest") (spF T F_Forest____call__)) (D__law_is_record : My.DnX P w T.K mg base 2 "_law_is_record" (spF T F__law_is_record)) (D__law_merge : My.DnX P w T.K mg base 3 "_law_merge" (spF T F__law_merge)) (F : My.Df T.K mg "_law_answers" s__law_answers P__law_answers) : My.DnX P w T.K mg base 5 "_law_answers" (spF T F__law_answers) :=
  okV F sc__law_answers (by decide) <| fun fa cdv A outer s H vs E hr => (bv_cons (sv_for (passes_of rfl) rfl (iv_rg1 rfl U.B.range_ (av_cons (ev_fn c_len f_len rfl U.B.len_ PySem.boot_len (av_cons (evn 1) av_nil)) av_nil)) (gv_name (i := 5) sc__law_answers.nd rfl (.inl rfl)) (bv_cons (sv_set (i := 6) sc__law_answers.nd rfl (.inl rfl) (ev_call D_first_unlike (hr.mono (by decide)) rfl (takes_of rfl rfl rfl rfl) (av_cons (evn 0) (av_cons (evn 5) (av_cons (evn 3) (av_cons (evn 4) av_nil))))))
    (bv_one (sv_if (tv_not (tv_e rfl (ev_call D__law_same (hr.mono (by decide)) rfl (takes_of rfl rfl rfl rfl) (av_cons (ev_tup (av_cons (evn 6) av_nil)) (av_cons (ev_lst (av_cons (ev_call D__law_unlike (hr.mono (by decide)) rfl (takes_of rfl rfl rfl rfl) (av_cons (evn 1) (av_cons (evn 5) (av_cons (evn 3) (av_cons (evn 4) av_nil))))) av_nil)) av_nil))))) (bv_one (sv_ret ev_bl)) bv_nil))))
    (bv_cons (sv_set (i := 7) sc__law_answers.nd rfl (.inl rfl) (ev_obj D_Forest____call__ (hr.mono (by decide)) (takes_of rfl rfl rfl rfl) (evn 0) (av_cons (evn 3) (av_cons (evn 4) av_nil))))
    (bv_one (sv_ret (ev_and (ev_call D__law_is_record (hr.mono (by decide)) rfl (takes_of rfl rfl rfl rfl) (av_cons (evn 7) (av_cons (ev_fn c_len f_len rfl U.B.len_ PySem.boot_len (av_cons (evn 1) av_nil)) av_nil))) (ev_one (ev_cmp (op_eqD hr.units) v_eq (evn 7) (ev_call D__law_merge (hr.mono (by decide)) rfl (takes_of rfl rfl rfl rfl) (av_cons (evn 1) (av_cons (evn 2) (av_cons (evn 3) (av_cons (evn 4) av_nil))))))))))))
set_option maxHeartbeats 2000000 in
theorem d__law_merged (U : Env P w mg base T) (D_Forest____call__ : My.DnO (L2.CX P w) P w T.K mg base 4 (T.ca "Forest") (spF T F_Forest____call__)) (F : My.Df T.K mg "_law_merged" s__law_merged P__law_merged) : My.DnX P w T.K mg base 5 "_law_merged" (spF T F__law_merged) :=
  okV F sc__law_merged (by decide) <| fun fa cdv A outer s H vs E hr => (bv_cons (sv_try rfl rfl sc__law_merged.nd (takes_of rfl rfl rfl rfl) (fun W pn xe tk po => (bv_one (sv_set (i := 3) sc__law_merged.nd rfl (.inl rfl) (ev_obj D_Forest____call__ (hr.mono (by decide)) tk (evn 0) (av_cons (evn 1) (av_cons (evn 2) av_nil)))))) (.cons ⟨rfl, by decide, (.inl U.MG_BadRecord)⟩ U.exm_BadRecord (fun c h => kn_BadRecord h) (start_lt (by decide)) rfl rfl (fun c a oe d pn hc hs0 hz hf => (bv_cons (sv_set (i := 5) sc__law_merged.nd rfl (.inl rfl) (ev_and (ev_isE rfl U.E hc hz hf hs0 rfl U.B.isinstance_ (av_cons (evn 4) (av_cons (ev_clsN rfl U.MG_FieldridesError) av_nil))) (ev_one (ev_isE rfl U.E hc hz hf hs0 rfl U.B.isinstance_ (av_cons (evn 4) (av_cons (ev_tyN rfl U.B.ValueError_ My.boot_ValueError) av_nil))))))
    (bv_one (sv_ret (ev_lst (av_cons ev_int (av_cons (ev_fE rfl U.E hc hz hf hs0 (by decide) (evn 4)) (av_cons (ev_and (evn 5) (ev_one (ev_not (ev_isE rfl U.E hc hz hf hs0 rfl U.B.isinstance_ (av_cons (evn 4) (av_cons (ev_tup (av_cons (ev_clsN rfl U.MG_BadForest) (av_cons (ev_clsN rfl U.MG_BadNumber) (av_cons (ev_clsN rfl U.MG_BadPlace) (av_cons (ev_clsN rfl U.MG_BadSizes) (av_cons (ev_clsN rfl U.MG_NoRecord) av_nil)))))) av_nil)))))) av_nil)))))))) .nil))
    (bv_one (sv_ret (ev_lst (av_cons ev_int (av_cons (evn 3) (av_cons ev_bl av_nil)))))))
set_option maxHeartbeats 2000000 in
theorem d__law_first (U : Env P w mg base T) (D_first_unlike : My.DnX P w T.K mg base 4 "first_unlike" (spF T F_first_unlike)) (F : My.Df T.K mg "_law_first" s__law_first P__law_first) : My.DnX P w T.K mg base 5 "_law_first" (spF T F__law_first) :=
  okV F sc__law_first (by decide) <| fun fa cdv A outer s H vs E hr => (bv_cons (sv_try rfl rfl sc__law_first.nd (takes_of rfl rfl rfl rfl) (fun W pn xe tk po => (bv_one (sv_set (i := 4) sc__law_first.nd rfl (.inl rfl) (ev_call D_first_unlike (hr.mono (by decide)) rfl tk (av_cons (evn 0) (av_cons (evn 1) (av_cons (evn 2) (av_cons (evn 3) av_nil)))))))) (.cons ⟨rfl, by decide, (.inl U.MG_BadPlace)⟩ U.exm_BadPlace (fun c h => kn_BadPlace h) (start_lt (by decide)) rfl rfl (fun c a oe d pn hc hs0 hz hf => (bv_cons (sv_set (i := 6) sc__law_first.nd rfl (.inl rfl) (ev_and (ev_isE rfl U.E hc hz hf hs0 rfl U.B.isinstance_ (av_cons (evn 5) (av_cons (ev_clsN rfl U.MG_FieldridesError) av_nil))) (ev_one (ev_isE rfl U.E hc hz hf hs0 rfl U.B.isinstance_ (av_cons (evn 5) (av_cons (ev_tyN rfl U.B.ValueError_ My.boot_ValueError) av_nil))))))
    (bv_one (sv_ret (ev_lst (av_cons ev_int (av_cons (ev_fE rfl U.E hc hz hf hs0 (by decide) (evn 5)) (av_cons (ev_and (evn 6) (ev_one (ev_not (ev_isE rfl U.E hc hz hf hs0 rfl U.B.isinstance_ (av_cons (evn 5) (av_cons (ev_tup (av_cons (ev_clsN rfl U.MG_BadForest) (av_cons (ev_clsN rfl U.MG_BadNumber) (av_cons (ev_clsN rfl U.MG_BadRecord) (av_cons (ev_clsN rfl U.MG_BadSizes) (av_cons (ev_clsN rfl U.MG_Marked) (av_cons (ev_clsN rfl U.MG_NoRecord) av_nil))))))) av_nil)))))) av_nil)))))))) (.cons ⟨rfl, by decide, (.inl U.MG_BadRecord)⟩ U.exm_BadRecord (fun c h => kn_BadRecord h) (start_lt (by decide)) rfl rfl (fun c a oe d pn hc hs0 hz hf => (bv_cons (sv_set (i := 6) sc__law_first.nd rfl (.inl rfl) (ev_and (ev_isE rfl U.E hc hz hf hs0 rfl U.B.isinstance_ (av_cons (evn 7) (av_cons (ev_clsN rfl U.MG_FieldridesError) av_nil))) (ev_one (ev_isE rfl U.E hc hz hf hs0 rfl U.B.isinstance_ (av_cons (evn 7) (av_cons (ev_tyN rfl U.B.ValueError_ My.boot_ValueError) av_nil))))))
    (bv_one (sv_ret (ev_lst (av_cons ev_int (av_cons (ev_fE rfl U.E hc hz hf hs0 (by decide) (evn 7)) (av_cons (ev_and (evn 6) (ev_one (ev_not (ev_isE rfl U.E hc hz hf hs0 rfl U.B.isinstance_ (av_cons (evn 7) (av_cons (ev_tup (av_cons (ev_clsN rfl U.MG_BadForest) (av_cons (ev_clsN rfl U.MG_BadNumber) (av_cons (ev_clsN rfl U.MG_BadPlace) (av_cons (ev_clsN rfl U.MG_BadSizes) (av_cons (ev_clsN rfl U.MG_NoRecord) av_nil)))))) av_nil)))))) av_nil)))))))) .nil)))
    (bv_one (sv_ret (ev_lst (av_cons ev_int (av_cons (evn 4) (av_cons ev_bl av_nil)))))))
set_option maxHeartbeats 2000000 in
theorem d__law_refuses (U : Env P w mg base T) (D__law_take : My.DnX P w T.K mg base 1 "_law_take" (spF T F__law_take)) (D__law_merged : My.DnX P w T.K mg base 5 "_law_merged" (spF T F__law_merged)) (D__law_same : My.DnX P w T.K mg base 2 "_law_same" (spF T F__law_same)) (D__law_first : My.DnX P w T.K mg base 5 "_law_first" (spF T F__law_first)) (D__law_unlike : My.DnX P w T.K mg base 2 "_law_unlike" (spF T F__law_unlike)) (F : My.Df T.K mg "_law_refuses" s__law_refuses P__law_refuses) : My.DnX P w T.K mg base 6 "_law_refuses" (spF T F__law_refuses) :=
  okV F sc__law_refuses (by decide) <| fun fa cdv A outer s H vs E hr => (bv_cons (sv_set (i := 5) sc__law_refuses.nd rfl (.inl rfl) (ev_fn c_len f_len rfl U.B.len_ PySem.boot_len (av_cons (evn 1) av_nil)))
    (bv_cons (sv_set (i := 6) sc__law_refuses.nd rfl (.inl rfl) (ev_call D__law_take (hr.mono (by decide)) rfl (takes_of rfl rfl rfl rfl) (av_cons (evn 3) (av_cons (evn 5) av_nil))))
    (bv_cons (sv_set (i := 7) sc__law_refuses.nd rfl (.inl rfl) (ev_lst (av_cons ev_int (av_cons ev_non av_nil))))
    (bv_cons (sv_set (i := 8) sc__law_refuses.nd rfl (.inl rfl) (ev_lst av_nil))
    (bv_cons (sv_forN (passes_of rfl) rfl rfl (evn 4) (gv_name (i := 9) sc__law_refuses.nd rfl (.inl rfl)) (bv_cons (sv_set (i := 10) sc__law_refuses.nd rfl (.inl rfl) (ev_call D__law_take (hr.mono (by decide)) rfl (takes_of rfl rfl rfl rfl) (av_cons (evn 3) (av_cons ev_int av_nil))))
    (bv_one (sv_expr (ev_mu rfl PySem.F.plainAttrs_list PySem.F.slot_list_append PySem.F.type_list_append (by decide) mt_append u_append (evn 8) (av_cons (ev_ix ix_seqA v_ix (ev_lst (av_cons (ev_sl rfl (evn 9) ov_none (ov_some (ev_op op_sub v_sub (evn 5) ev_int))) (av_cons (ev_op o_add v_add (evn 9) (ev_tup (av_cons ev_int av_nil))) (av_cons (evn 9) (av_cons (evn 9) av_nil))))) (evn 10) (fun _ _ => rfl)) av_nil))))))
    (bv_cons (sv_if (tv_cmp (op_neD hr.units) v_ne (ev_fn c_len f_len rfl U.B.len_ PySem.boot_len (av_cons (ev_ix ix_seqA v_ix (evn 8) ev_int (fun _ _ => rfl)) av_nil)) (evn 5)) (bv_one (sv_set (i := 7) sc__law_refuses.nd rfl (.inl rfl) (ev_lst (av_cons ev_int (av_cons (ev_ix ix_seqA v_ix (evn 8) ev_int (fun _ _ => rfl)) av_nil))))) bv_nil)
    (bv_cons (sv_if (tv_cmp (op_neD hr.units) v_ne (ev_fn c_len f_len rfl U.B.len_ PySem.boot_len (av_cons (ev_ix ix_seqA v_ix (evn 8) ev_int (fun _ _ => rfl)) av_nil)) (evn 5)) (bv_one (sv_set (i := 7) sc__law_refuses.nd rfl (.inl rfl) (ev_lst (av_cons ev_int (av_cons (ev_ix ix_seqA v_ix (evn 8) ev_int (fun _ _ => rfl)) av_nil))))) bv_nil)
    (bv_cons (sv_set (i := 11) sc__law_refuses.nd rfl (.inl rfl) (ev_call D__law_merged (hr.mono (by decide)) rfl (takes_of rfl rfl rfl rfl) (av_cons (evn 0) (av_cons (ev_ix ix_seqA v_ix (evn 8) ev_int (fun _ _ => rfl)) (av_cons (ev_ix ix_seqA v_ix (evn 8) ev_int (fun _ _ => rfl)) av_nil)))))
    (bv_cons (sv_if (tv_w (wv_or (tv_cmp (op_neD hr.units) v_ne (ev_ix ix_seqA v_ix (evn 11) ev_int (fun _ _ => rfl)) (ev_ix ix_seqA v_ix (evn 7) ev_int (fun _ _ => rfl))) (wv_or1 (tv_not (tv_e rfl (ev_ix ix_seqA v_ix (evn 11) ev_int (fun _ _ => rfl))))))) (bv_one (sv_ret ev_bl)) bv_nil)
    (bv_cons (sv_if (tv_w (wv_and (tv_cmp (op_eqD hr.units) v_eq (ev_ix ix_seqA v_ix (evn 7) ev_int (fun _ _ => rfl)) ev_int) (wv_and1 (tv_not (tv_e rfl (ev_call D__law_same (hr.mono (by decide)) rfl (takes_of rfl rfl rfl rfl) (av_cons (ev_ix ix_seqA v_ix (evn 11) ev_int (fun _ _ => rfl)) (av_cons (ev_ix ix_seqA v_ix (evn 7) ev_int (fun _ _ => rfl)) av_nil)))))))) (bv_one (sv_ret ev_bl)) bv_nil)
    (bv_cons (sv_if (tv_cmp (op_eqD hr.units) v_eq (ev_call D__law_take (hr.mono (by decide)) rfl (takes_of rfl rfl rfl rfl) (av_cons (evn 3) (av_cons ev_int av_nil))) ev_int) (bv_cons (sv_set (i := 6) sc__law_refuses.nd rfl (.inl rfl) (ev_ix ix_seqA v_ix (ev_lst (av_cons (ev_op op_sub v_sub ev_int ev_int) (av_cons (evn 5) (av_cons (ev_op o_add v_add (evn 5) (ev_op op_pow v_pow ev_int ev_int)) (av_cons (ev_op op_sub v_sub ev_int (ev_op op_pow v_pow ev_int ev_int)) av_nil))))) (ev_call D__law_take (hr.mono (by decide)) rfl (takes_of rfl rfl rfl rfl) (av_cons (evn 3) (av_cons ev_int av_nil))) (fun _ _ => rfl)))
    (bv_one (sv_set (i := 7) sc__law_refuses.nd rfl (.inl rfl) (ev_lst (av_cons ev_int (av_cons (evn 6) av_nil)))))) bv_nil)
    (bv_cons (sv_for (passes_of rfl) rfl (iv_rg1 rfl U.B.range_ (av_cons ev_int av_nil)) (gv_name (i := 12) sc__law_refuses.nd rfl (.inl rfl)) (bv_cons (sv_set (i := 11) sc__law_refuses.nd rfl (.inl rfl) (ev_call D__law_first (hr.mono (by decide)) rfl (takes_of rfl rfl rfl rfl) (av_cons (evn 0) (av_cons (evn 6) (av_cons (ev_ix ix_seqA v_ix (evn 8) ev_int (fun _ _ => rfl)) (av_cons (ev_ix ix_seqA v_ix (evn 8) ev_int (fun _ _ => rfl)) av_nil))))))
    (bv_cons (sv_if (tv_w (wv_or (tv_cmp (op_neD hr.units) v_ne (ev_ix ix_seqA v_ix (evn 11) ev_int (fun _ _ => rfl)) (ev_ix ix_seqA v_ix (evn 7) ev_int (fun _ _ => rfl))) (wv_or1 (tv_not (tv_e rfl (ev_ix ix_seqA v_ix (evn 11) ev_int (fun _ _ => rfl))))))) (bv_one (sv_ret ev_bl)) bv_nil)
    (bv_cons (sv_if (tv_w (wv_and (tv_cmp (op_eqD hr.units) v_eq (ev_ix ix_seqA v_ix (evn 7) ev_int (fun _ _ => rfl)) ev_int) (wv_and1 (tv_not (tv_e rfl (ev_call D__law_same (hr.mono (by decide)) rfl (takes_of rfl rfl rfl rfl) (av_cons (ev_ix ix_seqA v_ix (evn 11) ev_int (fun _ _ => rfl)) (av_cons (ev_ix ix_seqA v_ix (evn 7) ev_int (fun _ _ => rfl)) av_nil)))))))) (bv_one (sv_ret ev_bl)) bv_nil)
    (bv_cons (sv_if (tv_w (wv_and (tv_cmp (op_eqD hr.units) v_eq (ev_ix ix_seqA v_ix (evn 7) ev_int (fun _ _ => rfl)) ev_int) (wv_and1 (tv_not (tv_e rfl (ev_call D__law_same (hr.mono (by decide)) rfl (takes_of rfl rfl rfl rfl) (av_cons (ev_tup (av_cons (ev_ix ix_seqA v_ix (evn 11) ev_int (fun _ _ => rfl)) av_nil)) (av_cons (ev_lst (av_cons (evn 6) av_nil)) av_nil)))))))) (bv_one (sv_ret ev_bl)) bv_nil)
    (bv_one (sv_if (tv_w (wv_and (tv_cmp (op_eqD hr.units) v_eq (ev_ix ix_seqA v_ix (evn 7) ev_int (fun _ _ => rfl)) ev_int) (wv_and1 (tv_not (tv_e rfl (ev_call D__law_same (hr.mono (by decide)) rfl (takes_of rfl rfl rfl rfl) (av_cons (ev_tup (av_cons (ev_ix ix_seqA v_ix (evn 11) ev_int (fun _ _ => rfl)) av_nil)) (av_cons (ev_lst (av_cons (ev_call D__law_unlike (hr.mono (by decide)) rfl (takes_of rfl rfl rfl rfl) (av_cons (evn 1) (av_cons (evn 6) (av_cons (ev_ix ix_seqA v_ix (evn 4) ev_int (fun _ _ => rfl)) (av_cons (ev_ix ix_seqA v_ix (evn 4) ev_int (fun _ _ => rfl)) av_nil))))) av_nil)) av_nil)))))))) (bv_one (sv_ret ev_bl)) bv_nil)))))))
    (bv_one (sv_ret ev_bl))))))))))))))
set_option maxHeartbeats 2000000 in
theorem d_better (U : Env P w mg base T)  (F : My.Df T.K mg "better" s_better P_better) : My.DnX P w T.K mg base 1 "better" (spF T F_better) :=
  okV F sc_better (by decide) <| fun fa cdv A outer s H vs E hr => (bv_cons (sv_if (tv_cmp (op_eqD hr.units) v_eq (evn 0) ev_str) (bv_one (sv_ret (ev_cmp op_gt v_gt (evn 1) (evn 2)))) bv_nil)
    (bv_cons (sv_if (tv_cmp (op_eqD hr.units) v_eq (evn 0) ev_str) (bv_one (sv_ret (ev_cmp op_lt v_lt (evn 1) (evn 2)))) bv_nil)
    (bv_one (sv_ret ev_bl))))
set_option maxHeartbeats 2000000 in
theorem d_raised (U : Env P w mg base T)  (F : My.Df T.K mg "raised" s_raised P_raised) : My.DnX P w T.K mg base 1 "raised" (spF T F_raised) :=
  okV F sc_raised (by decide) <| fun fa cdv A outer s H vs E hr => (bv_cons (sv_if (tv_cmp (op_eqD hr.units) v_eq (evn 0) ev_str) (bv_one (sv_ret (ev_op op_sub v_sub (evn 1) (evn 2)))) bv_nil)
    (bv_one (sv_ret (ev_op o_add v_add (evn 1) (evn 2)))))
set_option maxHeartbeats 2000000 in
theorem d__law_values (U : Env P w mg base T) (D__law_value : My.DnX P w T.K mg base 2 "_law_value" (spF T F__law_value)) (D_better : My.DnX P w T.K mg base 1 "better" (spF T F_better)) (D_raised : My.DnX P w T.K mg base 1 "raised" (spF T F_raised)) (D__law_same : My.DnX P w T.K mg base 2 "_law_same" (spF T F__law_same)) (F : My.Df T.K mg "_law_values" s__law_values P__law_values) : My.DnX P w T.K mg base 3 "_law_values" (spF T F__law_values) :=
  okV F sc__law_values (by decide) <| fun fa cdv A outer s H vs E hr => (bv_cons (sv_set (i := 1) sc__law_values.nd rfl (.inl rfl) (ev_call D__law_value (hr.mono (by decide)) rfl (takes_of rfl rfl rfl rfl) (av_cons (evn 0) (av_cons ev_int av_nil))))
    (bv_cons (sv_set (i := 2) sc__law_values.nd rfl (.inl rfl) (ev_call D__law_value (hr.mono (by decide)) rfl (takes_of rfl rfl rfl rfl) (av_cons (evn 0) (av_cons ev_int av_nil))))
    (bv_cons (sv_set (i := 3) sc__law_values.nd rfl (.inl rfl) (ev_call D__law_value (hr.mono (by decide)) rfl (takes_of rfl rfl rfl rfl) (av_cons (evn 0) (av_cons ev_int av_nil))))
    (bv_cons (sv_for (passes_of rfl) rfl (iv_seq rfl (ev_lst (av_cons ev_str (av_cons ev_str (av_cons ev_str (av_cons ev_str av_nil)))))) (gv_name (i := 4) sc__law_values.nd rfl (.inl rfl)) (bv_cons (sv_set (i := 5) sc__law_values.nd rfl (.inl rfl) (ev_lst (av_cons (ev_or (ev_and (ev_cmp (op_eqD hr.units) v_eq (evn 4) ev_str) (ev_one (ev_cmp op_gt v_gt (evn 1) (evn 2)))) (ev_one (ev_and (ev_cmp (op_eqD hr.units) v_eq (evn 4) ev_str) (ev_one (ev_cmp op_lt v_lt (evn 1) (evn 2)))))) (av_cons ev_bl av_nil))))
    (bv_cons (sv_set (i := 6) sc__law_values.nd rfl (.inl rfl) (ev_lst (av_cons (ev_call D_better (hr.mono (by decide)) rfl (takes_of rfl rfl rfl rfl) (av_cons (evn 4) (av_cons (evn 1) (av_cons (evn 2) av_nil)))) (av_cons (ev_call D_better (hr.mono (by decide)) rfl (takes_of rfl rfl rfl rfl) (av_cons (evn 4) (av_cons (evn 1) (av_cons (evn 1) av_nil)))) av_nil))))
    (bv_cons (sv_for (passes_of rfl) rfl (iv_rg1 rfl U.B.range_ (av_cons ev_int av_nil)) (gv_name (i := 7) sc__law_values.nd rfl (.inl rfl)) (bv_one (sv_if (tv_w (wv_or (tv_not (tv_e rfl (ev_fn call_isi f_isi rfl U.B.isinstance_ boot_isinstance (av_cons (ev_ix ix_seqA v_ix (evn 6) (evn 7) (fun _ _ => rfl)) (av_cons (ev_tyN rfl U.B.bool_ boot_bool) av_nil))))) (wv_or1 (tv_cmp (op_neD hr.units) v_ne (ev_ix ix_seqA v_ix (evn 6) (evn 7) (fun _ _ => rfl)) (ev_ix ix_seqA v_ix (evn 5) (evn 7) (fun _ _ => rfl)))))) (bv_one (sv_ret ev_bl)) bv_nil)))
    (bv_cons (sv_set (i := 8) sc__law_values.nd rfl (.inl rfl) (ev_op o_add v_add (evn 1) (evn 3)))
    (bv_cons (sv_if (tv_cmp (op_eqD hr.units) v_eq (evn 4) ev_str) (bv_one (sv_set (i := 8) sc__law_values.nd rfl (.inl rfl) (ev_op op_sub v_sub (evn 1) (evn 3)))) bv_nil)
    (bv_one (sv_if (tv_not (tv_e rfl (ev_call D__law_same (hr.mono (by decide)) rfl (takes_of rfl rfl rfl rfl) (av_cons (ev_tup (av_cons (ev_call D_raised (hr.mono (by decide)) rfl (takes_of rfl rfl rfl rfl) (av_cons (evn 4) (av_cons (evn 1) (av_cons (evn 3) av_nil)))) av_nil)) (av_cons (ev_lst (av_cons (evn 8) av_nil)) av_nil))))) (bv_one (sv_ret ev_bl)) bv_nil))))))))
    (bv_one (sv_ret ev_bl))))))
set_option maxHeartbeats 2000000 in
theorem d_law {f : Addr} {fd : FuncData} (U : Env P w mg base T) (D__law_tape : My.DnX P w T.K mg base 1 "_law_tape" (spF T F__law_tape)) (D__law_take : My.DnX P w T.K mg base 1 "_law_take" (spF T F__law_take)) (D__law_parents : My.DnX P w T.K mg base 3 "_law_parents" (spF T F__law_parents)) (D__law_kinds : My.DnX P w T.K mg base 2 "_law_kinds" (spF T F__law_kinds)) (D__law_record : My.DnX P w T.K mg base 3 "_law_record" (spF T F__law_record)) (D__law_path : My.DnX P w T.K mg base 1 "_law_path" (spF T F__law_path)) (D_Forest____init__ : My.DnIX P w T.K mg base 4 "Forest" (T.ca "Forest") (spF T F_Forest____init__)) (D__law_answers : My.DnX P w T.K mg base 5 "_law_answers" (spF T F__law_answers)) (D__law_refuses : My.DnX P w T.K mg base 6 "_law_refuses" (spF T F__law_refuses)) (D__law_values : My.DnX P w T.K mg base 3 "_law_values" (spF T F__law_values)) (F : L2.Fun T.K "law" "law" s_law f fd) (hl : ∀ ns : List Int, ns.length ≤ 63 → ∃ fin, F_law [.scr ns] = .ok (.bl true) fin) : FnOk P w T.K mg base (L2.CX P w) 7 f fd ["_law_script"] (spLaw T.K) :=
  law_ok (W := W_law) F sc_law (by decide) hl <| fun fa cdv A outer s H vs E hr => (bv_cons (sv_set (i := 1) sc_law.nd rfl (.inl rfl) (ev_call D__law_tape (hr.mono (by decide)) rfl (takes_of rfl rfl rfl rfl) (av_cons (evn 0) (av_cons ev_int av_nil))))
    (bv_cons (sv_set (i := 2) sc_law.nd rfl (.inl rfl) (ev_op o_add v_add ev_int (ev_call D__law_take (hr.mono (by decide)) rfl (takes_of rfl rfl rfl rfl) (av_cons (evn 1) (av_cons ev_int av_nil)))))
    (bv_cons (sv_if (tv_cmp (op_eqD hr.units) v_eq (ev_call D__law_take (hr.mono (by decide)) rfl (takes_of rfl rfl rfl rfl) (av_cons (evn 1) (av_cons ev_int av_nil))) ev_int) (bv_one (sv_set (i := 2) sc_law.nd rfl (.inl rfl) (ev_op o_add v_add ev_int (ev_call D__law_take (hr.mono (by decide)) rfl (takes_of rfl rfl rfl rfl) (av_cons (evn 1) (av_cons ev_int av_nil)))))) bv_nil)
    (bv_cons (sv_set (i := 3) sc_law.nd rfl (.inl rfl) (ev_lst av_nil))
    (bv_cons (sv_for (passes_of rfl) rfl (iv_rg1 rfl U.B.range_ (av_cons ev_int av_nil)) (gv_name (i := 4) sc_law.nd rfl (.inl rfl)) (bv_cons (sv_set (i := 5) sc_law.nd rfl (.inl rfl) (ev_call D__law_parents (hr.mono (by decide)) rfl (takes_of rfl rfl rfl rfl) (av_cons (evn 1) (av_cons (evn 2) av_nil))))
    (bv_one (sv_expr (ev_mu rfl PySem.F.plainAttrs_list PySem.F.slot_list_append PySem.F.type_list_append (by decide) mt_append u_append (evn 3) (av_cons (ev_lst (av_cons (evn 5) (av_cons (ev_call D__law_kinds (hr.mono (by decide)) rfl (takes_of rfl rfl rfl rfl) (av_cons (ev_call D__law_tape (hr.mono (by decide)) rfl (takes_of rfl rfl rfl rfl) (av_cons (evn 0) (av_cons (ev_op o_add v_add ev_int (ev_op o_mul v_mul ev_int (evn 4))) av_nil))) (av_cons (evn 5) (av_cons ev_bl av_nil)))) av_nil))) av_nil))))))
    (bv_cons (sv_set (i := 6) sc_law.nd rfl (.inl rfl) (ev_call D__law_record (hr.mono (by decide)) rfl (takes_of rfl rfl rfl rfl) (av_cons (ev_call D__law_tape (hr.mono (by decide)) rfl (takes_of rfl rfl rfl rfl) (av_cons (evn 0) (av_cons ev_int av_nil))) (av_cons (evn 2) (av_cons ev_int av_nil)))))
    (bv_cons (sv_set (i := 7) sc_law.nd rfl (.inl rfl) (ev_call D__law_record (hr.mono (by decide)) rfl (takes_of rfl rfl rfl rfl) (av_cons (ev_call D__law_tape (hr.mono (by decide)) rfl (takes_of rfl rfl rfl rfl) (av_cons (evn 0) (av_cons ev_int av_nil))) (av_cons (evn 2) (av_cons ev_int av_nil)))))
    (bv_cons (sv_set (i := 8) sc_law.nd rfl (.inl rfl) (ev_call D__law_take (hr.mono (by decide)) rfl (takes_of rfl rfl rfl rfl) (av_cons (evn 1) (av_cons ev_int av_nil))))
    (bv_cons (sv_if (tv_cmp op_lt v_lt (evn 8) ev_int) (bv_cons (sv_set (i := 9) sc_law.nd rfl (.inl rfl) (ev_call D__law_path (hr.mono (by decide)) rfl (takes_of rfl rfl rfl rfl) (av_cons (ev_ix ix_seqA v_ix (ev_ix ix_seqA v_ix (evn 3) ev_int (fun _ _ => rfl)) ev_int (fun _ _ => rfl)) (av_cons (ev_call D__law_take (hr.mono (by decide)) rfl (takes_of rfl rfl rfl rfl) (av_cons (evn 1) (av_cons (evn 2) av_nil))) av_nil))))
    (bv_cons (sv_set (i := 10) sc_law.nd rfl (.inl rfl) (ev_ty call_list_of f_list rfl U.B.list_ boot_list (av_cons (evn 7) av_nil)))
    (bv_cons (sv_for (passes_of rfl) rfl (iv_seq rfl (ev_sl rfl (evn 9) ov_none (ov_some (ev_op op_sub v_sub (ev_fn c_len f_len rfl U.B.len_ PySem.boot_len (av_cons (evn 9) av_nil)) (evn 8))))) (gv_name (i := 11) sc_law.nd rfl (.inl rfl)) (bv_one (sv_sub (ev_ix ix_seqA v_ix (evn 6) (evn 11) (fun _ _ => rfl)) (evn 10) (evn 11))))
    (bv_one (sv_set (i := 7) sc_law.nd rfl (.inl rfl) (ev_ty call_tuple_of f_tuple rfl U.B.tuple_ boot_tuple (av_cons (evn 10) av_nil))))))) bv_nil)
    (bv_cons (sv_setLc (i := 12) (own := [("_law_shape", 13)]) rfl sc_law.nd rfl rfl (sw_true rfl rfl rfl (by decide +kernel)) rfl (by decide) (iv_seq rfl (evn 3)) (blkOk_by (own := [("_law_shape", 13)]) (N := N_law) (sc := defScope s_law) (by decide +kernel)) (fun _ _ _ _ _ => (gv_name (i := 13) sc_law.nd rfl (.inl rfl))) (fun _ _ _ _ _ => ptsv_nil) (fun _ _ _ _ _ => (ev_make D_Forest____init__ (hr.mono (by decide)) rfl takes0 (av_cons (ev_ty call_list_of f_list rfl U.B.list_ boot_list (av_cons (ev_ix ix_seqA v_ix (evn 13) ev_int (fun _ _ => rfl)) av_nil)) (av_cons (ev_ty call_list_of f_list rfl U.B.list_ boot_list (av_cons (ev_ix ix_seqA v_ix (evn 13) ev_int (fun _ _ => rfl)) av_nil)) av_nil)))))
    (bv_cons (sv_for (passes_of rfl) rfl (iv_seq rfl (ev_lst (av_cons (ev_lst (av_cons (evn 6) (av_cons (evn 7) av_nil))) (av_cons (ev_lst (av_cons (evn 7) (av_cons (evn 6) av_nil))) (av_cons (ev_lst (av_cons (evn 6) (av_cons (evn 6) av_nil))) (av_cons (ev_lst (av_cons (evn 6) (av_cons (evn 7) av_nil))) av_nil)))))) (gv_name (i := 14) sc_law.nd rfl (.inl rfl)) (bv_one (sv_for (passes_of rfl) rfl (iv_rg1 rfl U.B.range_ (av_cons ev_int av_nil)) (gv_name (i := 4) sc_law.nd rfl (.inl rfl)) (bv_one (sv_if (tv_not (tv_e rfl (ev_call D__law_answers (hr.mono (by decide)) rfl (takes_of rfl rfl rfl rfl) (av_cons (ev_ix ix_seqA v_ix (evn 12) (evn 4) (fun _ _ => rfl)) (av_cons (ev_ix ix_seqA v_ix (ev_ix ix_seqA v_ix (evn 3) (evn 4) (fun _ _ => rfl)) ev_int (fun _ _ => rfl)) (av_cons (ev_ix ix_seqA v_ix (ev_ix ix_seqA v_ix (evn 3) (evn 4) (fun _ _ => rfl)) ev_int (fun _ _ => rfl)) (av_cons (ev_ix ix_seqA v_ix (evn 14) ev_int (fun _ _ => rfl)) (av_cons (ev_ix ix_seqA v_ix (evn 14) ev_int (fun _ _ => rfl)) av_nil)))))))) (bv_one (sv_ret ev_bl)) bv_nil)))))
    (bv_cons (sv_set (i := 15) sc_law.nd rfl (.inl rfl) (ev_call D__law_tape (hr.mono (by decide)) rfl (takes_of rfl rfl rfl rfl) (av_cons (evn 0) (av_cons ev_int av_nil))))
    (bv_cons (sv_for (passes_of rfl) rfl (iv_rg1 rfl U.B.range_ (av_cons ev_int av_nil)) (gv_name (i := 4) sc_law.nd rfl (.inl rfl)) (bv_cons (sv_if (tv_not (tv_e rfl (ev_call D__law_refuses (hr.mono (by decide)) rfl (takes_of rfl rfl rfl rfl) (av_cons (ev_ix ix_seqA v_ix (evn 12) (evn 4) (fun _ _ => rfl)) (av_cons (ev_ix ix_seqA v_ix (ev_ix ix_seqA v_ix (evn 3) (evn 4) (fun _ _ => rfl)) ev_int (fun _ _ => rfl)) (av_cons (ev_ix ix_seqA v_ix (ev_ix ix_seqA v_ix (evn 3) (evn 4) (fun _ _ => rfl)) ev_int (fun _ _ => rfl)) (av_cons (evn 15) (av_cons (ev_lst (av_cons (evn 6) (av_cons (evn 7) av_nil))) av_nil)))))))) (bv_one (sv_ret ev_bl)) bv_nil)
    (bv_one (sv_if (tv_not (tv_e rfl (ev_call D__law_answers (hr.mono (by decide)) rfl (takes_of rfl rfl rfl rfl) (av_cons (ev_ix ix_seqA v_ix (evn 12) (evn 4) (fun _ _ => rfl)) (av_cons (ev_ix ix_seqA v_ix (ev_ix ix_seqA v_ix (evn 3) (evn 4) (fun _ _ => rfl)) ev_int (fun _ _ => rfl)) (av_cons (ev_ix ix_seqA v_ix (ev_ix ix_seqA v_ix (evn 3) (evn 4) (fun _ _ => rfl)) ev_int (fun _ _ => rfl)) (av_cons (evn 6) (av_cons (evn 7) av_nil)))))))) (bv_one (sv_ret ev_bl)) bv_nil))))
    (bv_one (sv_ret (ev_call D__law_values (hr.mono (by decide)) rfl (takes_of rfl rfl rfl rfl) (av_cons (ev_call D__law_tape (hr.mono (by decide)) rfl (takes_of rfl rfl rfl rfl) (av_cons (evn 0) (av_cons ev_int av_nil))) av_nil)))))))))))))))))
theorem x_BadForest {C0 : Addr} (TB : My.FExc T.K mg "FieldridesError" C0) (O : OexC T.K (T.ca "BadForest")) (no : PySem.W.findIn T.K (.ref (T.ca "BadForest")) "field" = some none) (F : My.DfE T.K mg "BadForest" (T.ca "BadForest") "BadForest.__init__" s_BadForest____init__ P_BadForest____init__) :
    My.DnE P w T.K mg base 1 "BadForest" (T.ca "BadForest") (My.spErr1 My.FmtOk "field" (T.ca "BadForest")) := by
  refine F.ok sc_BadForest____init__ (fun vs H Q E h => ?_) (fun fa cdv A outer s H vs Q E hr h => ?_)
  · obtain ⟨a, v, rfl, _⟩ := h; rfl
  obtain ⟨a, v, rfl, ha, ok, q⟩ := h
  refine ⟨_, (pss_cons (ps_expr (My.pe_ownInit TB rfl (pa_cons (pv 0) (pa_cons (pe_joined (.cons pe_str (.cons (My.pe_fmtO (pv 1)) .nil))) pa_nil)))) (pss_one (ps_ost (pv 0) (pv 1)))), ?_⟩
  refine ⟨_, rfl, ?_⟩
  refine ⟨_, rfl, by decide +kernel, ?_⟩
  refine ⟨_, rfl, ok, fun y1 hy1 => ⟨y1, rfl, str_room (m := 1000) (n := 2000) (by decide +kernel) hy1, ?_⟩⟩
  refine ⟨a, T.ca "BadForest", _, rfl, by show 1 ≤ 1000; decide, O, ha, ?_⟩
  exact ⟨_, rfl, _, rfl, a, T.ca "BadForest", rfl, O, no, .inl ⟨ha, fun dx nx ne => q dx nx ne⟩⟩
theorem x_BadPlace {C0 : Addr} (TB : My.FExc T.K mg "FieldridesError" C0) (O : OexC T.K (T.ca "BadPlace")) (no : PySem.W.findIn T.K (.ref (T.ca "BadPlace")) "place" = some none) (F : My.DfE T.K mg "BadPlace" (T.ca "BadPlace") "BadPlace.__init__" s_BadPlace____init__ P_BadPlace____init__) :
    My.DnE P w T.K mg base 1 "BadPlace" (T.ca "BadPlace") (My.spErr1 My.FmtOk "place" (T.ca "BadPlace")) := by
  refine F.ok sc_BadPlace____init__ (fun vs H Q E h => ?_) (fun fa cdv A outer s H vs Q E hr h => ?_)
  · obtain ⟨a, v, rfl, _⟩ := h; rfl
  obtain ⟨a, v, rfl, ha, ok, q⟩ := h
  refine ⟨_, (pss_cons (ps_expr (My.pe_ownInit TB rfl (pa_cons (pv 0) (pa_cons (pe_joined (.cons pe_str (.cons (My.pe_fmtO (pv 1)) .nil))) pa_nil)))) (pss_one (ps_ost (pv 0) (pv 1)))), ?_⟩
  refine ⟨_, rfl, ?_⟩
  refine ⟨_, rfl, by decide +kernel, ?_⟩
  refine ⟨_, rfl, ok, fun y1 hy1 => ⟨y1, rfl, str_room (m := 1000) (n := 2000) (by decide +kernel) hy1, ?_⟩⟩
  refine ⟨a, T.ca "BadPlace", _, rfl, by show 1 ≤ 1000; decide, O, ha, ?_⟩
  exact ⟨_, rfl, _, rfl, a, T.ca "BadPlace", rfl, O, no, .inl ⟨ha, fun dx nx ne => q dx nx ne⟩⟩
theorem x_BadRecord {C0 : Addr} (TB : My.FExc T.K mg "FieldridesError" C0) (O : OexC T.K (T.ca "BadRecord")) (no : PySem.W.findIn T.K (.ref (T.ca "BadRecord")) "record" = some none) (F : My.DfE T.K mg "BadRecord" (T.ca "BadRecord") "BadRecord.__init__" s_BadRecord____init__ P_BadRecord____init__) :
    My.DnE P w T.K mg base 1 "BadRecord" (T.ca "BadRecord") (My.spErr1 (fun _ => True) "record" (T.ca "BadRecord")) := by
  refine F.ok sc_BadRecord____init__ (fun vs H Q E h => ?_) (fun fa cdv A outer s H vs Q E hr h => ?_)
  · obtain ⟨a, v, rfl, _⟩ := h; rfl
  obtain ⟨a, v, rfl, ha, ok, q⟩ := h
  refine ⟨_, (pss_cons (ps_expr (My.pe_ownInit TB rfl (pa_cons (pv 0) (pa_cons pe_str pa_nil)))) (pss_one (ps_ost (pv 0) (pv 1)))), ?_⟩
  refine ⟨_, rfl, a, T.ca "BadRecord", _, rfl, by show 1 ≤ 1000; decide, O, ha, ?_⟩
  exact ⟨_, rfl, _, rfl, a, T.ca "BadRecord", rfl, O, no, .inl ⟨ha, fun dx nx ne => q dx nx ne⟩⟩
end
set_option maxHeartbeats 0 in
theorem all_mk {l : PySem.W.OpenLaw} {w : World} {K : PySem.W.Frag} {h : Heap} {mg : Str → Option Value} {fa : Addr} (X : K.In h) (G : h.Ns mainGlobals mg) (hfa : mg "law" = some (.ref fa))
    {C_Forest : Addr}
    {C_BadForest : Addr}
    {C_BadPlace : Addr}
    {C_BadRecord : Addr}
    {C_FieldridesError : Addr}
    {C_BadNumber : Addr}
    {C_BadSizes : Addr}
    {C_Marked : Addr}
    {C_NoRecord : Addr}
    {nm_BadForest q_BadForest : Str} {N_BadForest : Addr} {bs_BadForest : List Value} {sn_BadForest : List Str} {sub_BadForest : List Value} {ab_BadForest : Bool} {col_BadForest : Option Bool} {dd_BadForest : Option Addr} {m0_BadForest m1_BadForest m2_BadForest m3_BadForest m5_BadForest : Option Value}
    {nm_BadPlace q_BadPlace : Str} {N_BadPlace : Addr} {bs_BadPlace : List Value} {sn_BadPlace : List Str} {sub_BadPlace : List Value} {ab_BadPlace : Bool} {col_BadPlace : Option Bool} {dd_BadPlace : Option Addr} {m0_BadPlace m1_BadPlace m2_BadPlace m3_BadPlace m5_BadPlace : Option Value}
    {nm_BadRecord q_BadRecord : Str} {N_BadRecord : Addr} {bs_BadRecord : List Value} {sn_BadRecord : List Str} {sub_BadRecord : List Value} {ab_BadRecord : Bool} {col_BadRecord : Option Bool} {dd_BadRecord : Option Addr} {m0_BadRecord m1_BadRecord m2_BadRecord m3_BadRecord m5_BadRecord : Option Value}
    {f1 : Addr} {od1 an1 : Option Addr} {sl1 : Array (Option Value)} {oc1 kV1 dc1 pm1 cd1 ct1 : Value}
    {f2 : Addr} {od2 an2 : Option Addr} {sl2 : Array (Option Value)} {oc2 kV2 dc2 pm2 cd2 ct2 : Value}
    {f3 : Addr} {od3 an3 : Option Addr} {sl3 : Array (Option Value)} {oc3 kV3 dc3 pm3 cd3 ct3 : Value}
    {f4 : Addr} {od4 an4 : Option Addr} {sl4 : Array (Option Value)} {oc4 kV4 dc4 pm4 cd4 ct4 : Value}
    {f5 : Addr} {od5 an5 : Option Addr} {sl5 : Array (Option Value)} {oc5 kV5 dc5 pm5 cd5 ct5 : Value}
    {f6 : Addr} {od6 an6 : Option Addr} {sl6 : Array (Option Value)} {oc6 kV6 dc6 pm6 cd6 ct6 : Value}
    {f7 : Addr} {od7 an7 : Option Addr} {sl7 : Array (Option Value)} {oc7 kV7 dc7 pm7 cd7 ct7 : Value}
    {f8 : Addr} {od8 an8 : Option Addr} {sl8 : Array (Option Value)} {oc8 kV8 dc8 pm8 cd8 ct8 : Value}
    {f9 : Addr} {od9 an9 : Option Addr} {sl9 : Array (Option Value)} {oc9 kV9 dc9 pm9 cd9 ct9 : Value}
    {f10 : Addr} {od10 an10 : Option Addr} {sl10 : Array (Option Value)} {oc10 kV10 dc10 pm10 cd10 ct10 : Value}
    {f11 : Addr} {od11 an11 : Option Addr} {sl11 : Array (Option Value)} {oc11 kV11 dc11 pm11 cd11 ct11 : Value}
    {f12 : Addr} {od12 an12 : Option Addr} {sl12 : Array (Option Value)} {oc12 kV12 dc12 pm12 cd12 ct12 : Value}
    {f13 : Addr} {od13 an13 : Option Addr} {sl13 : Array (Option Value)} {oc13 kV13 dc13 pm13 cd13 ct13 : Value}
    {f14 : Addr} {od14 an14 : Option Addr} {sl14 : Array (Option Value)} {oc14 kV14 dc14 pm14 cd14 ct14 : Value}
    {f15 : Addr} {od15 an15 : Option Addr} {sl15 : Array (Option Value)} {oc15 kV15 dc15 pm15 cd15 ct15 : Value}
    {f16 : Addr} {od16 an16 : Option Addr} {sl16 : Array (Option Value)} {oc16 kV16 dc16 pm16 cd16 ct16 : Value}
    {f17 : Addr} {od17 an17 : Option Addr} {sl17 : Array (Option Value)} {oc17 kV17 dc17 pm17 cd17 ct17 : Value}
    {f18 : Addr} {od18 an18 : Option Addr} {sl18 : Array (Option Value)} {oc18 kV18 dc18 pm18 cd18 ct18 : Value}
    {f19 : Addr} {od19 an19 : Option Addr} {sl19 : Array (Option Value)} {oc19 kV19 dc19 pm19 cd19 ct19 : Value}
    {f20 : Addr} {od20 an20 : Option Addr} {sl20 : Array (Option Value)} {oc20 kV20 dc20 pm20 cd20 ct20 : Value}
    {f21 : Addr} {od21 an21 : Option Addr} {sl21 : Array (Option Value)} {oc21 kV21 dc21 pm21 cd21 ct21 : Value}
    {f22 : Addr} {od22 an22 : Option Addr} {sl22 : Array (Option Value)} {oc22 kV22 dc22 pm22 cd22 ct22 : Value}
    {f23 : Addr} {od23 an23 : Option Addr} {sl23 : Array (Option Value)} {oc23 kV23 dc23 pm23 cd23 ct23 : Value}
    {f24 : Addr} {od24 an24 : Option Addr} {sl24 : Array (Option Value)} {oc24 kV24 dc24 pm24 cd24 ct24 : Value}
    {f25 : Addr} {od25 an25 : Option Addr} {sl25 : Array (Option Value)} {oc25 kV25 dc25 pm25 cd25 ct25 : Value}
    {f26 : Addr} {od26 an26 : Option Addr} {sl26 : Array (Option Value)} {oc26 kV26 dc26 pm26 cd26 ct26 : Value}
    {f27 : Addr} {od27 an27 : Option Addr} {sl27 : Array (Option Value)} {oc27 kV27 dc27 pm27 cd27 ct27 : Value}
    {f28 : Addr} {od28 an28 : Option Addr} {sl28 : Array (Option Value)} {oc28 kV28 dc28 pm28 cd28 ct28 : Value}
    {f29 : Addr} {od29 an29 : Option Addr} {sl29 : Array (Option Value)} {oc29 kV29 dc29 pm29 cd29 ct29 : Value}
    {f30 : Addr} {od30 an30 : Option Addr} {sl30 : Array (Option Value)} {oc30 kV30 dc30 pm30 cd30 ct30 : Value}
    {f31 : Addr} {od31 an31 : Option Addr} {sl31 : Array (Option Value)} {oc31 kV31 dc31 pm31 cd31 ct31 : Value}
    {f32 : Addr} {od32 an32 : Option Addr} {sl32 : Array (Option Value)} {oc32 kV32 dc32 pm32 cd32 ct32 : Value}
    {f33 : Addr} {od33 an33 : Option Addr} {sl33 : Array (Option Value)} {oc33 kV33 dc33 pm33 cd33 ct33 : Value}
    {f34 : Addr} {od34 an34 : Option Addr} {sl34 : Array (Option Value)} {oc34 kV34 dc34 pm34 cd34 ct34 : Value}
    {f35 : Addr} {od35 an35 : Option Addr} {sl35 : Array (Option Value)} {oc35 kV35 dc35 pm35 cd35 ct35 : Value}
    {f36 : Addr} {od36 an36 : Option Addr} {sl36 : Array (Option Value)} {oc36 kV36 dc36 pm36 cd36 ct36 : Value}
    {f37 : Addr} {od37 an37 : Option Addr} {sl37 : Array (Option Value)} {oc37 kV37 dc37 pm37 cd37 ct37 : Value}
    {f38 : Addr} {od38 an38 : Option Addr} {sl38 : Array (Option Value)} {oc38 kV38 dc38 pm38 cd38 ct38 : Value}
    {f39 : Addr} {od39 an39 : Option Addr} {sl39 : Array (Option Value)} {oc39 kV39 dc39 pm39 cd39 ct39 : Value}
    {t_MOST_FIELDS : Tok}
    {a_SIDES : Addr} {es_SIDES : Array DictEntry} {n_SIDES : Nat}
    {p_SIDES0 : Addr} {t_SIDES0_0 t_SIDES0_1 : Tok} {n_SIDES0 : Nat} {od_SIDES0 : Option Addr} {sl_SIDES0 : Array (Option Value)}
    {p_SIDES1 : Addr} {t_SIDES1_0 t_SIDES1_1 : Tok} {n_SIDES1 : Nat} {od_SIDES1 : Option Addr} {sl_SIDES1 : Array (Option Value)}
    {p_SIDES2 : Addr} {t_SIDES2_0 t_SIDES2_1 : Tok} {n_SIDES2 : Nat} {od_SIDES2 : Option Addr} {sl_SIDES2 : Array (Option Value)}
    {p_SIDES3 : Addr} {t_SIDES3_0 t_SIDES3_1 : Tok} {n_SIDES3 : Nat} {od_SIDES3 : Option Addr} {sl_SIDES3 : Array (Option Value)}
    (aC_Forest : PySem.W.nsIn K mainGlobals "Forest" = some (some (.ref C_Forest)))
    (aC_BadForest : PySem.W.nsIn K mainGlobals "BadForest" = some (some (.ref C_BadForest)))
    (aC_BadPlace : PySem.W.nsIn K mainGlobals "BadPlace" = some (some (.ref C_BadPlace)))
    (aC_BadRecord : PySem.W.nsIn K mainGlobals "BadRecord" = some (some (.ref C_BadRecord)))
    (aC_FieldridesError : PySem.W.nsIn K mainGlobals "FieldridesError" = some (some (.ref C_FieldridesError)))
    (aC_BadNumber : PySem.W.nsIn K mainGlobals "BadNumber" = some (some (.ref C_BadNumber)))
    (aC_BadSizes : PySem.W.nsIn K mainGlobals "BadSizes" = some (some (.ref C_BadSizes)))
    (aC_Marked : PySem.W.nsIn K mainGlobals "Marked" = some (some (.ref C_Marked)))
    (aC_NoRecord : PySem.W.nsIn K mainGlobals "NoRecord" = some (some (.ref C_NoRecord)))
    (pg_Forest : PySem.W.plainGet K C_Forest Str.empty = true)
    (hd_Forest : PySem.W.hasDictIn K C_Forest = true)
    (po_Forest : PySem.W.plainOver K C_Forest = true)
    (sa_Forest : PySem.W.findIn K (.ref C_Forest) "__setattr__" = some (some (.builtin "object.__setattr__")))
    (mk_Forest : PySem.W.makesIn K C_Forest = true)
    (kc_Forest : PySem.W.keepIn K (.ref C_Forest) = true)
    (n_Forest_fields : PySem.W.findIn K (.ref C_Forest) "fields" = some none)
    (n_Forest_parents : PySem.W.findIn K (.ref C_Forest) "parents" = some none)
    (n_Forest_kinds : PySem.W.findIn K (.ref C_Forest) "kinds" = some none)
    (rd_FieldridesError : PySem.W.readsIn K C_FieldridesError (.type "type") = true)
    (gc_FieldridesError : PySem.W.specialIn K (.ref C_FieldridesError) "__getattribute__" = some (some (.builtin "type.__getattribute__")))
    (vv_FieldridesError : PySem.W.findCls K (.ref C_FieldridesError) (.type "type") "__init__" = some (.val (.builtin "ValueError.__init__")))
    (xL_BadForest : K.lookup C_BadForest = some (excClassObj nm_BadForest q_BadForest C_BadForest N_BadForest bs_BadForest [.ref C_FieldridesError, .type "ValueError", .type "Exception", .type "BaseException", .type "object"] true sn_BadForest sub_BadForest ab_BadForest col_BadForest dd_BadForest m0_BadForest m1_BadForest m2_BadForest m3_BadForest m5_BadForest "ValueError.__new__"))
    (sa_BadForest : PySem.W.findIn K (.ref C_BadForest) "__setattr__" = some (some (.builtin "object.__setattr__")))
    (xs_BadForest : PySem.W.subIn K (.ref C_BadForest) (.type "BaseException") = some true)
    (ty_BadForest : PySem.W.typeIn K (.ref C_BadForest) = some (.type "type"))
    (kc_BadForest : PySem.W.keepIn K (.ref C_BadForest) = true)
    (xg_BadForest : PySem.W.findIn K (.ref C_BadForest) "__getattribute__" = some (some (.builtin "BaseException.__getattribute__")))
    (xk_BadForest : PySem.W.findIn K (.ref C_BadForest) "__getattr__" = some none)
    (xd_BadForest : PySem.W.hasDictIn K C_BadForest = true)
    (xa_BadForest : PySem.W.findIn K (.ref C_BadForest) "__class__" = some (some (.builtin "object.__class__")))
    (xm_BadForest : PySem.W.mroIn K C_BadForest (.type "object") = some true)
    (nf_BadForest_field : PySem.W.findIn K (.ref C_BadForest) "field" = some none)
    (nf_BadForest_place : PySem.W.findIn K (.ref C_BadForest) "place" = some none)
    (nf_BadForest_record : PySem.W.findIn K (.ref C_BadForest) "record" = some none)
    (xL_BadPlace : K.lookup C_BadPlace = some (excClassObj nm_BadPlace q_BadPlace C_BadPlace N_BadPlace bs_BadPlace [.ref C_FieldridesError, .type "ValueError", .type "Exception", .type "BaseException", .type "object"] true sn_BadPlace sub_BadPlace ab_BadPlace col_BadPlace dd_BadPlace m0_BadPlace m1_BadPlace m2_BadPlace m3_BadPlace m5_BadPlace "ValueError.__new__"))
    (sa_BadPlace : PySem.W.findIn K (.ref C_BadPlace) "__setattr__" = some (some (.builtin "object.__setattr__")))
    (xs_BadPlace : PySem.W.subIn K (.ref C_BadPlace) (.type "BaseException") = some true)
    (ty_BadPlace : PySem.W.typeIn K (.ref C_BadPlace) = some (.type "type"))
    (kc_BadPlace : PySem.W.keepIn K (.ref C_BadPlace) = true)
    (xg_BadPlace : PySem.W.findIn K (.ref C_BadPlace) "__getattribute__" = some (some (.builtin "BaseException.__getattribute__")))
    (xk_BadPlace : PySem.W.findIn K (.ref C_BadPlace) "__getattr__" = some none)
    (xd_BadPlace : PySem.W.hasDictIn K C_BadPlace = true)
    (xa_BadPlace : PySem.W.findIn K (.ref C_BadPlace) "__class__" = some (some (.builtin "object.__class__")))
    (xm_BadPlace : PySem.W.mroIn K C_BadPlace (.type "object") = some true)
    (nf_BadPlace_place : PySem.W.findIn K (.ref C_BadPlace) "place" = some none)
    (nf_BadPlace_record : PySem.W.findIn K (.ref C_BadPlace) "record" = some none)
    (xL_BadRecord : K.lookup C_BadRecord = some (excClassObj nm_BadRecord q_BadRecord C_BadRecord N_BadRecord bs_BadRecord [.ref C_FieldridesError, .type "ValueError", .type "Exception", .type "BaseException", .type "object"] true sn_BadRecord sub_BadRecord ab_BadRecord col_BadRecord dd_BadRecord m0_BadRecord m1_BadRecord m2_BadRecord m3_BadRecord m5_BadRecord "ValueError.__new__"))
    (sa_BadRecord : PySem.W.findIn K (.ref C_BadRecord) "__setattr__" = some (some (.builtin "object.__setattr__")))
    (xs_BadRecord : PySem.W.subIn K (.ref C_BadRecord) (.type "BaseException") = some true)
    (ty_BadRecord : PySem.W.typeIn K (.ref C_BadRecord) = some (.type "type"))
    (kc_BadRecord : PySem.W.keepIn K (.ref C_BadRecord) = true)
    (xg_BadRecord : PySem.W.findIn K (.ref C_BadRecord) "__getattribute__" = some (some (.builtin "BaseException.__getattribute__")))
    (xk_BadRecord : PySem.W.findIn K (.ref C_BadRecord) "__getattr__" = some none)
    (xd_BadRecord : PySem.W.hasDictIn K C_BadRecord = true)
    (xa_BadRecord : PySem.W.findIn K (.ref C_BadRecord) "__class__" = some (some (.builtin "object.__class__")))
    (xm_BadRecord : PySem.W.mroIn K C_BadRecord (.type "object") = some true)
    (nf_BadRecord_place : PySem.W.findIn K (.ref C_BadRecord) "place" = some none)
    (nf_BadRecord_record : PySem.W.findIn K (.ref C_BadRecord) "record" = some none)
    (xn_ : PySem.W.specialIn K (.builtin "object.__class__") "__get__" = some (some (.builtin "getset_descriptor.__get__")))
    (xt_ : PySem.W.takesIn K (.builtin "object.__class__") = some true)
    (ic_BadForest : PySem.W.isClsIn K C_BadForest = true)
    (it_BadForest : PySem.W.typeIn K (.ref C_BadForest) = some (.type "type"))
    (ic_BadNumber : PySem.W.isClsIn K C_BadNumber = true)
    (it_BadNumber : PySem.W.typeIn K (.ref C_BadNumber) = some (.type "type"))
    (ic_BadPlace : PySem.W.isClsIn K C_BadPlace = true)
    (it_BadPlace : PySem.W.typeIn K (.ref C_BadPlace) = some (.type "type"))
    (ib_BadPlace : PySem.W.subIn K (.ref C_BadPlace) (.type "BaseException") = some true)
    (ic_BadRecord : PySem.W.isClsIn K C_BadRecord = true)
    (it_BadRecord : PySem.W.typeIn K (.ref C_BadRecord) = some (.type "type"))
    (ib_BadRecord : PySem.W.subIn K (.ref C_BadRecord) (.type "BaseException") = some true)
    (ic_BadSizes : PySem.W.isClsIn K C_BadSizes = true)
    (it_BadSizes : PySem.W.typeIn K (.ref C_BadSizes) = some (.type "type"))
    (ic_FieldridesError : PySem.W.isClsIn K C_FieldridesError = true)
    (it_FieldridesError : PySem.W.typeIn K (.ref C_FieldridesError) = some (.type "type"))
    (ic_Marked : PySem.W.isClsIn K C_Marked = true)
    (it_Marked : PySem.W.typeIn K (.ref C_Marked) = some (.type "type"))
    (ic_NoRecord : PySem.W.isClsIn K C_NoRecord = true)
    (it_NoRecord : PySem.W.typeIn K (.ref C_NoRecord) = some (.type "type"))
    (sub_BadForest_BadForest : PySem.W.subIn K (.ref C_BadForest) (.ref C_BadForest) = some true)
    (sub_BadForest_BadNumber : PySem.W.subIn K (.ref C_BadForest) (.ref C_BadNumber) = some false)
    (ne_BadForest_BadNumber : (C_BadForest == C_BadNumber) = false)
    (sub_BadForest_BadPlace : PySem.W.subIn K (.ref C_BadForest) (.ref C_BadPlace) = some false)
    (ne_BadForest_BadPlace : (C_BadForest == C_BadPlace) = false)
    (sub_BadForest_BadRecord : PySem.W.subIn K (.ref C_BadForest) (.ref C_BadRecord) = some false)
    (ne_BadForest_BadRecord : (C_BadForest == C_BadRecord) = false)
    (sub_BadForest_BadSizes : PySem.W.subIn K (.ref C_BadForest) (.ref C_BadSizes) = some false)
    (ne_BadForest_BadSizes : (C_BadForest == C_BadSizes) = false)
    (sub_BadForest_FieldridesError : PySem.W.subIn K (.ref C_BadForest) (.ref C_FieldridesError) = some true)
    (sub_BadForest_Marked : PySem.W.subIn K (.ref C_BadForest) (.ref C_Marked) = some false)
    (ne_BadForest_Marked : (C_BadForest == C_Marked) = false)
    (sub_BadForest_NoRecord : PySem.W.subIn K (.ref C_BadForest) (.ref C_NoRecord) = some false)
    (ne_BadForest_NoRecord : (C_BadForest == C_NoRecord) = false)
    (subV_BadForest : PySem.W.subIn K (.ref C_BadForest) (.type "ValueError") = some true)
    (sub_BadPlace_BadForest : PySem.W.subIn K (.ref C_BadPlace) (.ref C_BadForest) = some false)
    (ne_BadPlace_BadForest : (C_BadPlace == C_BadForest) = false)
    (sub_BadPlace_BadNumber : PySem.W.subIn K (.ref C_BadPlace) (.ref C_BadNumber) = some false)
    (ne_BadPlace_BadNumber : (C_BadPlace == C_BadNumber) = false)
    (sub_BadPlace_BadPlace : PySem.W.subIn K (.ref C_BadPlace) (.ref C_BadPlace) = some true)
    (sub_BadPlace_BadRecord : PySem.W.subIn K (.ref C_BadPlace) (.ref C_BadRecord) = some false)
    (ne_BadPlace_BadRecord : (C_BadPlace == C_BadRecord) = false)
    (sub_BadPlace_BadSizes : PySem.W.subIn K (.ref C_BadPlace) (.ref C_BadSizes) = some false)
    (ne_BadPlace_BadSizes : (C_BadPlace == C_BadSizes) = false)
    (sub_BadPlace_FieldridesError : PySem.W.subIn K (.ref C_BadPlace) (.ref C_FieldridesError) = some true)
    (sub_BadPlace_Marked : PySem.W.subIn K (.ref C_BadPlace) (.ref C_Marked) = some false)
    (ne_BadPlace_Marked : (C_BadPlace == C_Marked) = false)
    (sub_BadPlace_NoRecord : PySem.W.subIn K (.ref C_BadPlace) (.ref C_NoRecord) = some false)
    (ne_BadPlace_NoRecord : (C_BadPlace == C_NoRecord) = false)
    (subV_BadPlace : PySem.W.subIn K (.ref C_BadPlace) (.type "ValueError") = some true)
    (sub_BadRecord_BadForest : PySem.W.subIn K (.ref C_BadRecord) (.ref C_BadForest) = some false)
    (ne_BadRecord_BadForest : (C_BadRecord == C_BadForest) = false)
    (sub_BadRecord_BadNumber : PySem.W.subIn K (.ref C_BadRecord) (.ref C_BadNumber) = some false)
    (ne_BadRecord_BadNumber : (C_BadRecord == C_BadNumber) = false)
    (sub_BadRecord_BadPlace : PySem.W.subIn K (.ref C_BadRecord) (.ref C_BadPlace) = some false)
    (ne_BadRecord_BadPlace : (C_BadRecord == C_BadPlace) = false)
    (sub_BadRecord_BadRecord : PySem.W.subIn K (.ref C_BadRecord) (.ref C_BadRecord) = some true)
    (sub_BadRecord_BadSizes : PySem.W.subIn K (.ref C_BadRecord) (.ref C_BadSizes) = some false)
    (ne_BadRecord_BadSizes : (C_BadRecord == C_BadSizes) = false)
    (sub_BadRecord_FieldridesError : PySem.W.subIn K (.ref C_BadRecord) (.ref C_FieldridesError) = some true)
    (sub_BadRecord_Marked : PySem.W.subIn K (.ref C_BadRecord) (.ref C_Marked) = some false)
    (ne_BadRecord_Marked : (C_BadRecord == C_Marked) = false)
    (sub_BadRecord_NoRecord : PySem.W.subIn K (.ref C_BadRecord) (.ref C_NoRecord) = some false)
    (ne_BadRecord_NoRecord : (C_BadRecord == C_NoRecord) = false)
    (subV_BadRecord : PySem.W.subIn K (.ref C_BadRecord) (.type "ValueError") = some true)
    (a1 : PySem.W.nsIn K mainGlobals "_law_tape" = some (some (.ref f1)))
    (l1 : K.lookup f1 = some ⟨oc1, od1, .func (PySem.W.fnOf "_law_tape" "_law_tape" (defArgs s__law_tape) (defBody s__law_tape) (defScope s__law_tape) .none kV1 dc1 pm1 an1 cd1 ct1), sl1⟩)
    (c1 : PySem.W.codeIn K cd1 "_law_tape" = true)
    (k1 : PySem.W.keepIn K (.ref f1) = true)
    (a2 : PySem.W.nsIn K mainGlobals "_law_take" = some (some (.ref f2)))
    (l2 : K.lookup f2 = some ⟨oc2, od2, .func (PySem.W.fnOf "_law_take" "_law_take" (defArgs s__law_take) (defBody s__law_take) (defScope s__law_take) .none kV2 dc2 pm2 an2 cd2 ct2), sl2⟩)
    (c2 : PySem.W.codeIn K cd2 "_law_take" = true)
    (k2 : PySem.W.keepIn K (.ref f2) = true)
    (a3 : PySem.W.nsIn K mainGlobals "_law_turns" = some (some (.ref f3)))
    (l3 : K.lookup f3 = some ⟨oc3, od3, .func (PySem.W.fnOf "_law_turns" "_law_turns" (defArgs s__law_turns) (defBody s__law_turns) (defScope s__law_turns) .none kV3 dc3 pm3 an3 cd3 ct3), sl3⟩)
    (c3 : PySem.W.codeIn K cd3 "_law_turns" = true)
    (k3 : PySem.W.keepIn K (.ref f3) = true)
    (a4 : PySem.W.nsIn K mainGlobals "_law_parents" = some (some (.ref f4)))
    (l4 : K.lookup f4 = some ⟨oc4, od4, .func (PySem.W.fnOf "_law_parents" "_law_parents" (defArgs s__law_parents) (defBody s__law_parents) (defScope s__law_parents) .none kV4 dc4 pm4 an4 cd4 ct4), sl4⟩)
    (c4 : PySem.W.codeIn K cd4 "_law_parents" = true)
    (k4 : PySem.W.keepIn K (.ref f4) = true)
    (a5 : PySem.W.nsIn K mainGlobals "_law_kinds" = some (some (.ref f5)))
    (l5 : K.lookup f5 = some ⟨oc5, od5, .func (PySem.W.fnOf "_law_kinds" "_law_kinds" (defArgs s__law_kinds) (defBody s__law_kinds) (defScope s__law_kinds) .none kV5 dc5 pm5 an5 cd5 ct5), sl5⟩)
    (c5 : PySem.W.codeIn K cd5 "_law_kinds" = true)
    (k5 : PySem.W.keepIn K (.ref f5) = true)
    (a6 : PySem.W.nsIn K mainGlobals "_law_value" = some (some (.ref f6)))
    (l6 : K.lookup f6 = some ⟨oc6, od6, .func (PySem.W.fnOf "_law_value" "_law_value" (defArgs s__law_value) (defBody s__law_value) (defScope s__law_value) .none kV6 dc6 pm6 an6 cd6 ct6), sl6⟩)
    (c6 : PySem.W.codeIn K cd6 "_law_value" = true)
    (k6 : PySem.W.keepIn K (.ref f6) = true)
    (a7 : PySem.W.nsIn K mainGlobals "_law_record" = some (some (.ref f7)))
    (l7 : K.lookup f7 = some ⟨oc7, od7, .func (PySem.W.fnOf "_law_record" "_law_record" (defArgs s__law_record) (defBody s__law_record) (defScope s__law_record) .none kV7 dc7 pm7 an7 cd7 ct7), sl7⟩)
    (c7 : PySem.W.codeIn K cd7 "_law_record" = true)
    (k7 : PySem.W.keepIn K (.ref f7) = true)
    (a8 : PySem.W.nsIn K mainGlobals "_law_path" = some (some (.ref f8)))
    (l8 : K.lookup f8 = some ⟨oc8, od8, .func (PySem.W.fnOf "_law_path" "_law_path" (defArgs s__law_path) (defBody s__law_path) (defScope s__law_path) .none kV8 dc8 pm8 an8 cd8 ct8), sl8⟩)
    (c8 : PySem.W.codeIn K cd8 "_law_path" = true)
    (k8 : PySem.W.keepIn K (.ref f8) = true)
    (a9 : PySem.W.nsIn K mainGlobals "way_ends" = some (some (.ref f9)))
    (l9 : K.lookup f9 = some ⟨oc9, od9, .func (PySem.W.fnOf "way_ends" "way_ends" (defArgs s_way_ends) (defBody s_way_ends) (defScope s_way_ends) .none kV9 dc9 pm9 an9 cd9 ct9), sl9⟩)
    (c9 : PySem.W.codeIn K cd9 "way_ends" = true)
    (k9 : PySem.W.keepIn K (.ref f9) = true)
    (a10 : PySem.W.nsIn K mainGlobals "is_ranked" = some (some (.ref f10)))
    (l10 : K.lookup f10 = some ⟨oc10, od10, .func (PySem.W.fnOf "is_ranked" "is_ranked" (defArgs s_is_ranked) (defBody s_is_ranked) (defScope s_is_ranked) .none kV10 dc10 pm10 an10 cd10 ct10), sl10⟩)
    (c10 : PySem.W.codeIn K cd10 "is_ranked" = true)
    (k10 : PySem.W.keepIn K (.ref f10) = true)
    (a11 : PySem.W.nsIn K mainGlobals "check_forest" = some (some (.ref f11)))
    (l11 : K.lookup f11 = some ⟨oc11, od11, .func (PySem.W.fnOf "check_forest" "check_forest" (defArgs s_check_forest) (defBody s_check_forest) (defScope s_check_forest) .none kV11 dc11 pm11 an11 cd11 ct11), sl11⟩)
    (c11 : PySem.W.codeIn K cd11 "check_forest" = true)
    (k11 : PySem.W.keepIn K (.ref f11) = true)
    (a12 : PySem.W.findIn K (.ref C_Forest) "__init__" = some (some (.ref f12)))
    (i12 : PySem.W.isFn K (.ref f12) = true)
    (l12 : K.lookup f12 = some ⟨oc12, od12, .func (PySem.W.fnOf "__init__" "Forest.__init__" (defArgs s_Forest____init__) (defBody s_Forest____init__) (defScope s_Forest____init__) .none kV12 dc12 pm12 an12 cd12 ct12), sl12⟩)
    (c12 : PySem.W.codeIn K cd12 "Forest.__init__" = true)
    (k12 : PySem.W.keepIn K (.ref f12) = true)
    (a13 : PySem.W.nsIn K mainGlobals "check_place" = some (some (.ref f13)))
    (l13 : K.lookup f13 = some ⟨oc13, od13, .func (PySem.W.fnOf "check_place" "check_place" (defArgs s_check_place) (defBody s_check_place) (defScope s_check_place) .none kV13 dc13 pm13 an13 cd13 ct13), sl13⟩)
    (c13 : PySem.W.codeIn K cd13 "check_place" = true)
    (k13 : PySem.W.keepIn K (.ref f13) = true)
    (a14 : PySem.W.nsIn K mainGlobals "check_record" = some (some (.ref f14)))
    (l14 : K.lookup f14 = some ⟨oc14, od14, .func (PySem.W.fnOf "check_record" "check_record" (defArgs s_check_record) (defBody s_check_record) (defScope s_check_record) .none kV14 dc14 pm14 an14 cd14 ct14), sl14⟩)
    (c14 : PySem.W.codeIn K cd14 "check_record" = true)
    (k14 : PySem.W.keepIn K (.ref f14) = true)
    (a15 : PySem.W.nsIn K mainGlobals "sign" = some (some (.ref f15)))
    (l15 : K.lookup f15 = some ⟨oc15, od15, .func (PySem.W.fnOf "sign" "sign" (defArgs s_sign) (defBody s_sign) (defScope s_sign) .none kV15 dc15 pm15 an15 cd15 ct15), sl15⟩)
    (c15 : PySem.W.codeIn K cd15 "sign" = true)
    (k15 : PySem.W.keepIn K (.ref f15) = true)
    (a16 : PySem.W.nsIn K mainGlobals "signs" = some (some (.ref f16)))
    (l16 : K.lookup f16 = some ⟨oc16, od16, .func (PySem.W.fnOf "signs" "signs" (defArgs s_signs) (defBody s_signs) (defScope s_signs) .none kV16 dc16 pm16 an16 cd16 ct16), sl16⟩)
    (c16 : PySem.W.codeIn K cd16 "signs" = true)
    (k16 : PySem.W.keepIn K (.ref f16) = true)
    (a17 : PySem.W.findIn K (.ref C_Forest) "path" = some (some (.ref f17)))
    (i17 : PySem.W.isFn K (.ref f17) = true)
    (l17 : K.lookup f17 = some ⟨oc17, od17, .func (PySem.W.fnOf "path" "Forest.path" (defArgs s_Forest__path) (defBody s_Forest__path) (defScope s_Forest__path) .none kV17 dc17 pm17 an17 cd17 ct17), sl17⟩)
    (c17 : PySem.W.codeIn K cd17 "Forest.path" = true)
    (k17 : PySem.W.keepIn K (.ref f17) = true)
    (a18 : PySem.W.nsIn K mainGlobals "first_marked" = some (some (.ref f18)))
    (l18 : K.lookup f18 = some ⟨oc18, od18, .func (PySem.W.fnOf "first_marked" "first_marked" (defArgs s_first_marked) (defBody s_first_marked) (defScope s_first_marked) .none kV18 dc18 pm18 an18 cd18 ct18), sl18⟩)
    (c18 : PySem.W.codeIn K cd18 "first_marked" = true)
    (k18 : PySem.W.keepIn K (.ref f18) = true)
    (a19 : PySem.W.nsIn K mainGlobals "first_unlike" = some (some (.ref f19)))
    (l19 : K.lookup f19 = some ⟨oc19, od19, .func (PySem.W.fnOf "first_unlike" "first_unlike" (defArgs s_first_unlike) (defBody s_first_unlike) (defScope s_first_unlike) .none kV19 dc19 pm19 an19 cd19 ct19), sl19⟩)
    (c19 : PySem.W.codeIn K cd19 "first_unlike" = true)
    (k19 : PySem.W.keepIn K (.ref f19) = true)
    (a20 : PySem.W.nsIn K mainGlobals "_law_unlike" = some (some (.ref f20)))
    (l20 : K.lookup f20 = some ⟨oc20, od20, .func (PySem.W.fnOf "_law_unlike" "_law_unlike" (defArgs s__law_unlike) (defBody s__law_unlike) (defScope s__law_unlike) .none kV20 dc20 pm20 an20 cd20 ct20), sl20⟩)
    (c20 : PySem.W.codeIn K cd20 "_law_unlike" = true)
    (k20 : PySem.W.keepIn K (.ref f20) = true)
    (a21 : PySem.W.nsIn K mainGlobals "_law_is_integer" = some (some (.ref f21)))
    (l21 : K.lookup f21 = some ⟨oc21, od21, .func (PySem.W.fnOf "_law_is_integer" "_law_is_integer" (defArgs s__law_is_integer) (defBody s__law_is_integer) (defScope s__law_is_integer) .none kV21 dc21 pm21 an21 cd21 ct21), sl21⟩)
    (c21 : PySem.W.codeIn K cd21 "_law_is_integer" = true)
    (k21 : PySem.W.keepIn K (.ref f21) = true)
    (a22 : PySem.W.nsIn K mainGlobals "_law_same" = some (some (.ref f22)))
    (l22 : K.lookup f22 = some ⟨oc22, od22, .func (PySem.W.fnOf "_law_same" "_law_same" (defArgs s__law_same) (defBody s__law_same) (defScope s__law_same) .none kV22 dc22 pm22 an22 cd22 ct22), sl22⟩)
    (c22 : PySem.W.codeIn K cd22 "_law_same" = true)
    (k22 : PySem.W.keepIn K (.ref f22) = true)
    (a23 : PySem.W.nsIn K mainGlobals "side_by" = some (some (.ref f23)))
    (l23 : K.lookup f23 = some ⟨oc23, od23, .func (PySem.W.fnOf "side_by" "side_by" (defArgs s_side_by) (defBody s_side_by) (defScope s_side_by) .none kV23 dc23 pm23 an23 cd23 ct23), sl23⟩)
    (c23 : PySem.W.codeIn K cd23 "side_by" = true)
    (k23 : PySem.W.keepIn K (.ref f23) = true)
    (a24 : PySem.W.nsIn K mainGlobals "forest_side" = some (some (.ref f24)))
    (l24 : K.lookup f24 = some ⟨oc24, od24, .func (PySem.W.fnOf "forest_side" "forest_side" (defArgs s_forest_side) (defBody s_forest_side) (defScope s_forest_side) .none kV24 dc24 pm24 an24 cd24 ct24), sl24⟩)
    (c24 : PySem.W.codeIn K cd24 "forest_side" = true)
    (k24 : PySem.W.keepIn K (.ref f24) = true)
    (a25 : PySem.W.findIn K (.ref C_Forest) "__call__" = some (some (.ref f25)))
    (i25 : PySem.W.isFn K (.ref f25) = true)
    (fi25 : PySem.W.fnIn K f25 = true)
    (l25 : K.lookup f25 = some ⟨oc25, od25, .func (PySem.W.fnOf "__call__" "Forest.__call__" (defArgs s_Forest____call__) (defBody s_Forest____call__) (defScope s_Forest____call__) .none kV25 dc25 pm25 an25 cd25 ct25), sl25⟩)
    (c25 : PySem.W.codeIn K cd25 "Forest.__call__" = true)
    (k25 : PySem.W.keepIn K (.ref f25) = true)
    (a26 : PySem.W.nsIn K mainGlobals "_law_is_record" = some (some (.ref f26)))
    (l26 : K.lookup f26 = some ⟨oc26, od26, .func (PySem.W.fnOf "_law_is_record" "_law_is_record" (defArgs s__law_is_record) (defBody s__law_is_record) (defScope s__law_is_record) .none kV26 dc26 pm26 an26 cd26 ct26), sl26⟩)
    (c26 : PySem.W.codeIn K cd26 "_law_is_record" = true)
    (k26 : PySem.W.keepIn K (.ref f26) = true)
    (a27 : PySem.W.nsIn K mainGlobals "_law_side" = some (some (.ref f27)))
    (l27 : K.lookup f27 = some ⟨oc27, od27, .func (PySem.W.fnOf "_law_side" "_law_side" (defArgs s__law_side) (defBody s__law_side) (defScope s__law_side) .none kV27 dc27 pm27 an27 cd27 ct27), sl27⟩)
    (c27 : PySem.W.codeIn K cd27 "_law_side" = true)
    (k27 : PySem.W.keepIn K (.ref f27) = true)
    (a28 : PySem.W.nsIn K mainGlobals "_law_merge" = some (some (.ref f28)))
    (l28 : K.lookup f28 = some ⟨oc28, od28, .func (PySem.W.fnOf "_law_merge" "_law_merge" (defArgs s__law_merge) (defBody s__law_merge) (defScope s__law_merge) .none kV28 dc28 pm28 an28 cd28 ct28), sl28⟩)
    (c28 : PySem.W.codeIn K cd28 "_law_merge" = true)
    (k28 : PySem.W.keepIn K (.ref f28) = true)
    (a29 : PySem.W.nsIn K mainGlobals "_law_answers" = some (some (.ref f29)))
    (l29 : K.lookup f29 = some ⟨oc29, od29, .func (PySem.W.fnOf "_law_answers" "_law_answers" (defArgs s__law_answers) (defBody s__law_answers) (defScope s__law_answers) .none kV29 dc29 pm29 an29 cd29 ct29), sl29⟩)
    (c29 : PySem.W.codeIn K cd29 "_law_answers" = true)
    (k29 : PySem.W.keepIn K (.ref f29) = true)
    (a30 : PySem.W.nsIn K mainGlobals "_law_merged" = some (some (.ref f30)))
    (l30 : K.lookup f30 = some ⟨oc30, od30, .func (PySem.W.fnOf "_law_merged" "_law_merged" (defArgs s__law_merged) (defBody s__law_merged) (defScope s__law_merged) .none kV30 dc30 pm30 an30 cd30 ct30), sl30⟩)
    (c30 : PySem.W.codeIn K cd30 "_law_merged" = true)
    (k30 : PySem.W.keepIn K (.ref f30) = true)
    (a31 : PySem.W.nsIn K mainGlobals "_law_first" = some (some (.ref f31)))
    (l31 : K.lookup f31 = some ⟨oc31, od31, .func (PySem.W.fnOf "_law_first" "_law_first" (defArgs s__law_first) (defBody s__law_first) (defScope s__law_first) .none kV31 dc31 pm31 an31 cd31 ct31), sl31⟩)
    (c31 : PySem.W.codeIn K cd31 "_law_first" = true)
    (k31 : PySem.W.keepIn K (.ref f31) = true)
    (a32 : PySem.W.nsIn K mainGlobals "_law_refuses" = some (some (.ref f32)))
    (l32 : K.lookup f32 = some ⟨oc32, od32, .func (PySem.W.fnOf "_law_refuses" "_law_refuses" (defArgs s__law_refuses) (defBody s__law_refuses) (defScope s__law_refuses) .none kV32 dc32 pm32 an32 cd32 ct32), sl32⟩)
    (c32 : PySem.W.codeIn K cd32 "_law_refuses" = true)
    (k32 : PySem.W.keepIn K (.ref f32) = true)
    (a33 : PySem.W.nsIn K mainGlobals "better" = some (some (.ref f33)))
    (l33 : K.lookup f33 = some ⟨oc33, od33, .func (PySem.W.fnOf "better" "better" (defArgs s_better) (defBody s_better) (defScope s_better) .none kV33 dc33 pm33 an33 cd33 ct33), sl33⟩)
    (c33 : PySem.W.codeIn K cd33 "better" = true)
    (k33 : PySem.W.keepIn K (.ref f33) = true)
    (a34 : PySem.W.nsIn K mainGlobals "raised" = some (some (.ref f34)))
    (l34 : K.lookup f34 = some ⟨oc34, od34, .func (PySem.W.fnOf "raised" "raised" (defArgs s_raised) (defBody s_raised) (defScope s_raised) .none kV34 dc34 pm34 an34 cd34 ct34), sl34⟩)
    (c34 : PySem.W.codeIn K cd34 "raised" = true)
    (k34 : PySem.W.keepIn K (.ref f34) = true)
    (a35 : PySem.W.nsIn K mainGlobals "_law_values" = some (some (.ref f35)))
    (l35 : K.lookup f35 = some ⟨oc35, od35, .func (PySem.W.fnOf "_law_values" "_law_values" (defArgs s__law_values) (defBody s__law_values) (defScope s__law_values) .none kV35 dc35 pm35 an35 cd35 ct35), sl35⟩)
    (c35 : PySem.W.codeIn K cd35 "_law_values" = true)
    (k35 : PySem.W.keepIn K (.ref f35) = true)
    (a36 : PySem.W.nsIn K mainGlobals "law" = some (some (.ref f36)))
    (l36 : K.lookup f36 = some ⟨oc36, od36, .func (PySem.W.fnOf "law" "law" (defArgs s_law) (defBody s_law) (defScope s_law) .none kV36 dc36 pm36 an36 cd36 ct36), sl36⟩)
    (c36 : PySem.W.codeIn K cd36 "law" = true)
    (k36 : PySem.W.keepIn K (.ref f36) = true)
    (a37 : PySem.W.findIn K (.ref C_BadForest) "__init__" = some (some (.ref f37)))
    (i37 : PySem.W.typeIn K (.ref f37) = some (.type "function"))
    (l37 : K.lookup f37 = some ⟨oc37, od37, .func (PySem.W.fnOf "__init__" "BadForest.__init__" (defArgs s_BadForest____init__) (defBody s_BadForest____init__) (defScope s_BadForest____init__) .none kV37 dc37 pm37 an37 cd37 ct37), sl37⟩)
    (c37 : PySem.W.codeIn K cd37 "BadForest.__init__" = true)
    (k37 : PySem.W.keepIn K (.ref f37) = true)
    (a38 : PySem.W.findIn K (.ref C_BadPlace) "__init__" = some (some (.ref f38)))
    (i38 : PySem.W.typeIn K (.ref f38) = some (.type "function"))
    (l38 : K.lookup f38 = some ⟨oc38, od38, .func (PySem.W.fnOf "__init__" "BadPlace.__init__" (defArgs s_BadPlace____init__) (defBody s_BadPlace____init__) (defScope s_BadPlace____init__) .none kV38 dc38 pm38 an38 cd38 ct38), sl38⟩)
    (c38 : PySem.W.codeIn K cd38 "BadPlace.__init__" = true)
    (k38 : PySem.W.keepIn K (.ref f38) = true)
    (a39 : PySem.W.findIn K (.ref C_BadRecord) "__init__" = some (some (.ref f39)))
    (i39 : PySem.W.typeIn K (.ref f39) = some (.type "function"))
    (l39 : K.lookup f39 = some ⟨oc39, od39, .func (PySem.W.fnOf "__init__" "BadRecord.__init__" (defArgs s_BadRecord____init__) (defBody s_BadRecord____init__) (defScope s_BadRecord____init__) .none kV39 dc39 pm39 an39 cd39 ct39), sl39⟩)
    (c39 : PySem.W.codeIn K cd39 "BadRecord.__init__" = true)
    (k39 : PySem.W.keepIn K (.ref f39) = true)
    (z_ValueError : PySem.W.nsIn K mainGlobals "ValueError" = some none)
    (z_abs : PySem.W.nsIn K mainGlobals "abs" = some none)
    (z_bool : PySem.W.nsIn K mainGlobals "bool" = some none)
    (z_enumerate : PySem.W.nsIn K mainGlobals "enumerate" = some none)
    (z_int : PySem.W.nsIn K mainGlobals "int" = some none)
    (z_isinstance : PySem.W.nsIn K mainGlobals "isinstance" = some none)
    (z_len : PySem.W.nsIn K mainGlobals "len" = some none)
    (z_list : PySem.W.nsIn K mainGlobals "list" = some none)
    (z_range : PySem.W.nsIn K mainGlobals "range" = some none)
    (z_tuple : PySem.W.nsIn K mainGlobals "tuple" = some none)
    (z_zip : PySem.W.nsIn K mainGlobals "zip" = some none)
    (u_MOST_FIELDS : PySem.W.nsIn K mainGlobals "MOST_FIELDS" = some (some (.int 16 t_MOST_FIELDS)))
    (u_SIDES : PySem.W.nsIn K mainGlobals "SIDES" = some (some (.ref a_SIDES)))
    (d_SIDES : K.lookup a_SIDES = some ⟨.type "dict", none, .dict es_SIDES n_SIDES, #[]⟩)
    (y_SIDES : PySem.W.KeysLit w.params es_SIDES.toList)
    (v_SIDES0 : PySem.W.nsIn K a_SIDES "up" = some (some (.ref p_SIDES0)))
    (w_SIDES0 : K.lookup p_SIDES0 = some ⟨.type "tuple", od_SIDES0, .seq #[.str "newer" t_SIDES0_0, .str "older" t_SIDES0_1] n_SIDES0, sl_SIDES0⟩)
    (v_SIDES1 : PySem.W.nsIn K a_SIDES "down" = some (some (.ref p_SIDES1)))
    (w_SIDES1 : K.lookup p_SIDES1 = some ⟨.type "tuple", od_SIDES1, .seq #[.str "older" t_SIDES1_0, .str "newer" t_SIDES1_1] n_SIDES1, sl_SIDES1⟩)
    (v_SIDES2 : PySem.W.nsIn K a_SIDES "first" = some (some (.ref p_SIDES2)))
    (w_SIDES2 : K.lookup p_SIDES2 = some ⟨.type "tuple", od_SIDES2, .seq #[.str "older" t_SIDES2_0, .str "older" t_SIDES2_1] n_SIDES2, sl_SIDES2⟩)
    (v_SIDES3 : PySem.W.nsIn K a_SIDES "last" = some (some (.ref p_SIDES3)))
    (w_SIDES3 : K.lookup p_SIDES3 = some ⟨.type "tuple", od_SIDES3, .seq #[.str "newer" t_SIDES3_0, .str "newer" t_SIDES3_1] n_SIDES3, sl_SIDES3⟩)
    : ∃ fd : FuncData, (∀ (s : Shared) (v : Value), BindsTo s fd ⟨[v], []⟩ [("_law_script", v)]) ∧ ∀ base : Heap, K.In base → base.Ns mainGlobals mg → FnOk l.prog w K mg base (L2.CX l.prog w) 7 fa fd ["_law_script"] (spLaw K) := by
  obtain ⟨T, hK, hc_Forest, hc_BadForest, hc_BadPlace, hc_BadRecord, hc_FieldridesError, hc_BadNumber, hc_BadSizes, hc_Marked, hc_NoRecord, hf_Forest, hf_BadForest, hf_BadPlace, hf_BadRecord⟩ : ∃ T : Tb, T.K = K ∧ T.ca "Forest" = C_Forest ∧ T.ca "BadForest" = C_BadForest ∧ T.ca "BadPlace" = C_BadPlace ∧ T.ca "BadRecord" = C_BadRecord ∧ T.ca "FieldridesError" = C_FieldridesError ∧ T.ca "BadNumber" = C_BadNumber ∧ T.ca "BadSizes" = C_BadSizes ∧ T.ca "Marked" = C_Marked ∧ T.ca "NoRecord" = C_NoRecord ∧ T.flds "Forest" = (["fields", "parents", "kinds"] : List Str) ∧ T.flds "BadForest" = (["field"] : List Str) ∧ T.flds "BadPlace" = (["place"] : List Str) ∧ T.flds "BadRecord" = (["record"] : List Str) := ⟨⟨K, fun c => if c = "Forest" then C_Forest else if c = "BadForest" then C_BadForest else if c = "BadPlace" then C_BadPlace else if c = "BadRecord" then C_BadRecord else if c = "FieldridesError" then C_FieldridesError else if c = "BadNumber" then C_BadNumber else if c = "BadSizes" then C_BadSizes else if c = "Marked" then C_Marked else if c = "NoRecord" then C_NoRecord else 0, fun c => if c = "Forest" then (["fields", "parents", "kinds"] : List Str) else if c = "BadForest" then (["field"] : List Str) else if c = "BadPlace" then (["place"] : List Str) else if c = "BadRecord" then (["record"] : List Str) else []⟩, rfl, by simp, by simp, by simp, by simp, by simp, by simp, by simp, by simp, by simp, by simp, by simp, by simp, by simp⟩
  subst hK
  subst hc_Forest
  subst hc_BadForest
  subst hc_BadPlace
  subst hc_BadRecord
  subst hc_FieldridesError
  subst hc_BadNumber
  subst hc_BadSizes
  subst hc_Marked
  subst hc_NoRecord
  have e := hfa.symm.trans (PySem.W.mg_of X G a36)
  cases e
  have Q1 := fun_mk (st := s__law_tape) l1 c1 k1
  have F__law_tape : My.Df T.K mg "_law_tape" s__law_tape P__law_tape := ⟨_, _, Q1, Q1.binds (ps := P__law_tape) fun _ _ _ _ _ _ us hl => match us, hl with | [_, _], _ => rfl, PySem.W.mg_of X G a1⟩
  have Q2 := fun_mk (st := s__law_take) l2 c2 k2
  have F__law_take : My.Df T.K mg "_law_take" s__law_take P__law_take := ⟨_, _, Q2, Q2.binds (ps := P__law_take) fun _ _ _ _ _ _ us hl => match us, hl with | [_, _], _ => rfl, PySem.W.mg_of X G a2⟩
  have Q3 := fun_mk (st := s__law_turns) l3 c3 k3
  have F__law_turns : My.Df T.K mg "_law_turns" s__law_turns P__law_turns := ⟨_, _, Q3, Q3.binds (ps := P__law_turns) fun _ _ _ _ _ _ us hl => match us, hl with | [_, _], _ => rfl, PySem.W.mg_of X G a3⟩
  have Q4 := fun_mk (st := s__law_parents) l4 c4 k4
  have F__law_parents : My.Df T.K mg "_law_parents" s__law_parents P__law_parents := ⟨_, _, Q4, Q4.binds (ps := P__law_parents) fun _ _ _ _ _ _ us hl => match us, hl with | [_, _], _ => rfl, PySem.W.mg_of X G a4⟩
  have Q5 := fun_mk (st := s__law_kinds) l5 c5 k5
  have F__law_kinds : My.Df T.K mg "_law_kinds" s__law_kinds P__law_kinds := ⟨_, _, Q5, Q5.binds (ps := P__law_kinds) fun _ _ _ _ _ _ us hl => match us, hl with | [_, _, _], _ => rfl, PySem.W.mg_of X G a5⟩
  have Q6 := fun_mk (st := s__law_value) l6 c6 k6
  have F__law_value : My.Df T.K mg "_law_value" s__law_value P__law_value := ⟨_, _, Q6, Q6.binds (ps := P__law_value) fun _ _ _ _ _ _ us hl => match us, hl with | [_, _], _ => rfl, PySem.W.mg_of X G a6⟩
  have Q7 := fun_mk (st := s__law_record) l7 c7 k7
  have F__law_record : My.Df T.K mg "_law_record" s__law_record P__law_record := ⟨_, _, Q7, Q7.binds (ps := P__law_record) fun _ _ _ _ _ _ us hl => match us, hl with | [_, _, _], _ => rfl, PySem.W.mg_of X G a7⟩
  have Q8 := fun_mk (st := s__law_path) l8 c8 k8
  have F__law_path : My.Df T.K mg "_law_path" s__law_path P__law_path := ⟨_, _, Q8, Q8.binds (ps := P__law_path) fun _ _ _ _ _ _ us hl => match us, hl with | [_, _], _ => rfl, PySem.W.mg_of X G a8⟩
  have Q9 := fun_mk (st := s_way_ends) l9 c9 k9
  have F_way_ends : My.Df T.K mg "way_ends" s_way_ends P_way_ends := ⟨_, _, Q9, Q9.binds (ps := P_way_ends) fun _ _ _ _ _ _ us hl => match us, hl with | [_, _], _ => rfl, PySem.W.mg_of X G a9⟩
  have Q10 := fun_mk (st := s_is_ranked) l10 c10 k10
  have F_is_ranked : My.Df T.K mg "is_ranked" s_is_ranked P_is_ranked := ⟨_, _, Q10, Q10.binds (ps := P_is_ranked) fun _ _ _ _ _ _ us hl => match us, hl with | [_], _ => rfl, PySem.W.mg_of X G a10⟩
  have Q11 := fun_mk (st := s_check_forest) l11 c11 k11
  have F_check_forest : My.Df T.K mg "check_forest" s_check_forest P_check_forest := ⟨_, _, Q11, Q11.binds (ps := P_check_forest) fun _ _ _ _ _ _ us hl => match us, hl with | [_, _], _ => rfl, PySem.W.mg_of X G a11⟩
  have Q12 := fun_mk (st := s_Forest____init__) l12 c12 k12
  have F_Forest____init__ : My.DfI T.K mg "Forest" (T.ca "Forest") "Forest.__init__" s_Forest____init__ P_Forest____init__ := ⟨_, _, Q12, Q12.binds (ps := P_Forest____init__) fun _ _ _ _ _ _ us hl => match us, hl with | [_, _, _], _ => rfl, ⟨mk_Forest, a12, i12, kc_Forest⟩, PySem.W.mg_of X G aC_Forest⟩
  have Q13 := fun_mk (st := s_check_place) l13 c13 k13
  have F_check_place : My.Df T.K mg "check_place" s_check_place P_check_place := ⟨_, _, Q13, Q13.binds (ps := P_check_place) fun _ _ _ _ _ _ us hl => match us, hl with | [_, _], _ => rfl, PySem.W.mg_of X G a13⟩
  have Q14 := fun_mk (st := s_check_record) l14 c14 k14
  have F_check_record : My.Df T.K mg "check_record" s_check_record P_check_record := ⟨_, _, Q14, Q14.binds (ps := P_check_record) fun _ _ _ _ _ _ us hl => match us, hl with | [_, _], _ => rfl, PySem.W.mg_of X G a14⟩
  have Q15 := fun_mk (st := s_sign) l15 c15 k15
  have F_sign : My.Df T.K mg "sign" s_sign P_sign := ⟨_, _, Q15, Q15.binds (ps := P_sign) fun _ _ _ _ _ _ us hl => match us, hl with | [_, _], _ => rfl, PySem.W.mg_of X G a15⟩
  have Q16 := fun_mk (st := s_signs) l16 c16 k16
  have F_signs : My.Df T.K mg "signs" s_signs P_signs := ⟨_, _, Q16, Q16.binds (ps := P_signs) fun _ _ _ _ _ _ us hl => match us, hl with | [_, _], _ => rfl, PySem.W.mg_of X G a16⟩
  have Q17 := fun_mk (st := s_Forest__path) l17 c17 k17
  have F_Forest__path : My.DfM T.K (T.ca "Forest") "path" "Forest.path" s_Forest__path P_Forest__path := ⟨_, _, Q17, Q17.binds (ps := P_Forest__path) fun _ _ _ _ _ _ us hl => match us, hl with | [_, _], _ => rfl, ⟨a17, i17, k17⟩⟩
  have Q18 := fun_mk (st := s_first_marked) l18 c18 k18
  have F_first_marked : My.Df T.K mg "first_marked" s_first_marked P_first_marked := ⟨_, _, Q18, Q18.binds (ps := P_first_marked) fun _ _ _ _ _ _ us hl => match us, hl with | [_, _, _], _ => rfl, PySem.W.mg_of X G a18⟩
  have Q19 := fun_mk (st := s_first_unlike) l19 c19 k19
  have F_first_unlike : My.Df T.K mg "first_unlike" s_first_unlike P_first_unlike := ⟨_, _, Q19, Q19.binds (ps := P_first_unlike) fun _ _ _ _ _ _ us hl => match us, hl with | [_, _, _, _], _ => rfl, PySem.W.mg_of X G a19⟩
  have Q20 := fun_mk (st := s__law_unlike) l20 c20 k20
  have F__law_unlike : My.Df T.K mg "_law_unlike" s__law_unlike P__law_unlike := ⟨_, _, Q20, Q20.binds (ps := P__law_unlike) fun _ _ _ _ _ _ us hl => match us, hl with | [_, _, _, _], _ => rfl, PySem.W.mg_of X G a20⟩
  have Q21 := fun_mk (st := s__law_is_integer) l21 c21 k21
  have F__law_is_integer : My.Df T.K mg "_law_is_integer" s__law_is_integer P__law_is_integer := ⟨_, _, Q21, Q21.binds (ps := P__law_is_integer) fun _ _ _ _ _ _ us hl => match us, hl with | [_], _ => rfl, PySem.W.mg_of X G a21⟩
  have Q22 := fun_mk (st := s__law_same) l22 c22 k22
  have F__law_same : My.Df T.K mg "_law_same" s__law_same P__law_same := ⟨_, _, Q22, Q22.binds (ps := P__law_same) fun _ _ _ _ _ _ us hl => match us, hl with | [_, _], _ => rfl, PySem.W.mg_of X G a22⟩
  have Q23 := fun_mk (st := s_side_by) l23 c23 k23
  have F_side_by : My.Df T.K mg "side_by" s_side_by P_side_by := ⟨_, _, Q23, Q23.binds (ps := P_side_by) fun _ _ _ _ _ _ us hl => match us, hl with | [_, _], _ => rfl, PySem.W.mg_of X G a23⟩
  have Q24 := fun_mk (st := s_forest_side) l24 c24 k24
  have F_forest_side : My.Df T.K mg "forest_side" s_forest_side P_forest_side := ⟨_, _, Q24, Q24.binds (ps := P_forest_side) fun _ _ _ _ _ _ us hl => match us, hl with | [_, _, _], _ => rfl, PySem.W.mg_of X G a24⟩
  have Q25 := fun_mk (st := s_Forest____call__) l25 c25 k25
  have F_Forest____call__ : My.DfO T.K (T.ca "Forest") "Forest.__call__" s_Forest____call__ P_Forest____call__ := ⟨_, _, Q25, Q25.binds (ps := P_Forest____call__) fun _ _ _ _ _ _ us hl => match us, hl with | [_, _, _], _ => rfl, ⟨a25, i25, fi25⟩⟩
  have Q26 := fun_mk (st := s__law_is_record) l26 c26 k26
  have F__law_is_record : My.Df T.K mg "_law_is_record" s__law_is_record P__law_is_record := ⟨_, _, Q26, Q26.binds (ps := P__law_is_record) fun _ _ _ _ _ _ us hl => match us, hl with | [_, _], _ => rfl, PySem.W.mg_of X G a26⟩
  have Q27 := fun_mk (st := s__law_side) l27 c27 k27
  have F__law_side : My.Df T.K mg "_law_side" s__law_side P__law_side := ⟨_, _, Q27, Q27.binds (ps := P__law_side) fun _ _ _ _ _ _ us hl => match us, hl with | [_, _, _, _, _], _ => rfl, PySem.W.mg_of X G a27⟩
  have Q28 := fun_mk (st := s__law_merge) l28 c28 k28
  have F__law_merge : My.Df T.K mg "_law_merge" s__law_merge P__law_merge := ⟨_, _, Q28, Q28.binds (ps := P__law_merge) fun _ _ _ _ _ _ us hl => match us, hl with | [_, _, _, _], _ => rfl, PySem.W.mg_of X G a28⟩
  have Q29 := fun_mk (st := s__law_answers) l29 c29 k29
  have F__law_answers : My.Df T.K mg "_law_answers" s__law_answers P__law_answers := ⟨_, _, Q29, Q29.binds (ps := P__law_answers) fun _ _ _ _ _ _ us hl => match us, hl with | [_, _, _, _, _], _ => rfl, PySem.W.mg_of X G a29⟩
  have Q30 := fun_mk (st := s__law_merged) l30 c30 k30
  have F__law_merged : My.Df T.K mg "_law_merged" s__law_merged P__law_merged := ⟨_, _, Q30, Q30.binds (ps := P__law_merged) fun _ _ _ _ _ _ us hl => match us, hl with | [_, _, _], _ => rfl, PySem.W.mg_of X G a30⟩
  have Q31 := fun_mk (st := s__law_first) l31 c31 k31
  have F__law_first : My.Df T.K mg "_law_first" s__law_first P__law_first := ⟨_, _, Q31, Q31.binds (ps := P__law_first) fun _ _ _ _ _ _ us hl => match us, hl with | [_, _, _, _], _ => rfl, PySem.W.mg_of X G a31⟩
  have Q32 := fun_mk (st := s__law_refuses) l32 c32 k32
  have F__law_refuses : My.Df T.K mg "_law_refuses" s__law_refuses P__law_refuses := ⟨_, _, Q32, Q32.binds (ps := P__law_refuses) fun _ _ _ _ _ _ us hl => match us, hl with | [_, _, _, _, _], _ => rfl, PySem.W.mg_of X G a32⟩
  have Q33 := fun_mk (st := s_better) l33 c33 k33
  have F_better : My.Df T.K mg "better" s_better P_better := ⟨_, _, Q33, Q33.binds (ps := P_better) fun _ _ _ _ _ _ us hl => match us, hl with | [_, _, _], _ => rfl, PySem.W.mg_of X G a33⟩
  have Q34 := fun_mk (st := s_raised) l34 c34 k34
  have F_raised : My.Df T.K mg "raised" s_raised P_raised := ⟨_, _, Q34, Q34.binds (ps := P_raised) fun _ _ _ _ _ _ us hl => match us, hl with | [_, _, _], _ => rfl, PySem.W.mg_of X G a34⟩
  have Q35 := fun_mk (st := s__law_values) l35 c35 k35
  have F__law_values : My.Df T.K mg "_law_values" s__law_values P__law_values := ⟨_, _, Q35, Q35.binds (ps := P__law_values) fun _ _ _ _ _ _ us hl => match us, hl with | [_], _ => rfl, PySem.W.mg_of X G a35⟩
  have Q36 := fun_mk (st := s_law) l36 c36 k36
  have Q37 := fun_mk (st := s_BadForest____init__) l37 c37 k37
  have OX_BadForest : OexC T.K (T.ca "BadForest") := ⟨⟨_, _, _, _, _, _, _, _, _, _, _, _, _, _, _, xL_BadForest, by rfl⟩, sa_BadForest, xs_BadForest, ty_BadForest, kc_BadForest⟩
  have F_BadForest____init__ : My.DfE T.K mg "BadForest" (T.ca "BadForest") "BadForest.__init__" s_BadForest____init__ P_BadForest____init__ := ⟨_, _, Q37, Q37.binds (ps := P_BadForest____init__) fun _ _ _ _ _ _ us hl => match us, hl with | [_, _], _ => rfl, a37, i37, OX_BadForest, PySem.W.mg_of X G aC_BadForest⟩
  have EC_BadForest : ExcC T.K (T.ca "BadForest") := ⟨xg_BadForest, xk_BadForest, xs_BadForest, xd_BadForest, xa_BadForest, xn_, xt_, xm_BadForest⟩
  have XF_BadForest : XfC T.K (T.ca "BadForest") := ⟨xg_BadForest, xk_BadForest, xs_BadForest, xd_BadForest⟩
  have Q38 := fun_mk (st := s_BadPlace____init__) l38 c38 k38
  have OX_BadPlace : OexC T.K (T.ca "BadPlace") := ⟨⟨_, _, _, _, _, _, _, _, _, _, _, _, _, _, _, xL_BadPlace, by rfl⟩, sa_BadPlace, xs_BadPlace, ty_BadPlace, kc_BadPlace⟩
  have F_BadPlace____init__ : My.DfE T.K mg "BadPlace" (T.ca "BadPlace") "BadPlace.__init__" s_BadPlace____init__ P_BadPlace____init__ := ⟨_, _, Q38, Q38.binds (ps := P_BadPlace____init__) fun _ _ _ _ _ _ us hl => match us, hl with | [_, _], _ => rfl, a38, i38, OX_BadPlace, PySem.W.mg_of X G aC_BadPlace⟩
  have EC_BadPlace : ExcC T.K (T.ca "BadPlace") := ⟨xg_BadPlace, xk_BadPlace, xs_BadPlace, xd_BadPlace, xa_BadPlace, xn_, xt_, xm_BadPlace⟩
  have XF_BadPlace : XfC T.K (T.ca "BadPlace") := ⟨xg_BadPlace, xk_BadPlace, xs_BadPlace, xd_BadPlace⟩
  have Q39 := fun_mk (st := s_BadRecord____init__) l39 c39 k39
  have OX_BadRecord : OexC T.K (T.ca "BadRecord") := ⟨⟨_, _, _, _, _, _, _, _, _, _, _, _, _, _, _, xL_BadRecord, by rfl⟩, sa_BadRecord, xs_BadRecord, ty_BadRecord, kc_BadRecord⟩
  have F_BadRecord____init__ : My.DfE T.K mg "BadRecord" (T.ca "BadRecord") "BadRecord.__init__" s_BadRecord____init__ P_BadRecord____init__ := ⟨_, _, Q39, Q39.binds (ps := P_BadRecord____init__) fun _ _ _ _ _ _ us hl => match us, hl with | [_, _], _ => rfl, a39, i39, OX_BadRecord, PySem.W.mg_of X G aC_BadRecord⟩
  have EC_BadRecord : ExcC T.K (T.ca "BadRecord") := ⟨xg_BadRecord, xk_BadRecord, xs_BadRecord, xd_BadRecord, xa_BadRecord, xn_, xt_, xm_BadRecord⟩
  have XF_BadRecord : XfC T.K (T.ca "BadRecord") := ⟨xg_BadRecord, xk_BadRecord, xs_BadRecord, xd_BadRecord⟩
  refine ⟨PySem.W.fnOf "law" "law" (defArgs s_law) (defBody s_law) (defScope s_law) .none kV36 dc36 pm36 an36 cd36 ct36, fun s v => .of_eq rfl, fun base _ _ => ?_⟩
  have B : Bts mg := ⟨PySem.W.mg_none_of X G z_ValueError, PySem.W.mg_none_of X G z_abs, PySem.W.mg_none_of X G z_bool, PySem.W.mg_none_of X G z_enumerate, PySem.W.mg_none_of X G z_int, PySem.W.mg_none_of X G z_isinstance, PySem.W.mg_none_of X G z_len, PySem.W.mg_none_of X G z_list, PySem.W.mg_none_of X G z_range, PySem.W.mg_none_of X G z_tuple, PySem.W.mg_none_of X G z_zip⟩
  have G_SIDES : KD T w mg "SIDES" tab_SIDES := by
    refine ⟨_, PySem.W.mg_of X G u_SIDES, fun z a e => ?_⟩
    have m := lookup_mem e
    simp only [tab_SIDES, List.mem_cons, List.not_mem_nil, or_false, Prod.mk.injEq] at m
    rcases m with ⟨rfl, rfl⟩ | ⟨rfl, rfl⟩ | ⟨rfl, rfl⟩ | ⟨rfl, rfl⟩
    · exact ⟨_, kval_tup (vs := [V.str "newer", V.str "older"]) w_SIDES0 rfl rfl (show (2 : Nat) ≤ sizeLine from by decide) (.cons ⟨_, rfl⟩ (.cons ⟨_, rfl⟩ .nil)) (fun F => (.cons (by simp only [Rep]) rfl (.cons (by simp only [Rep]) rfl Reps.nil))), _, _, _, d_SIDES, y_SIDES, v_SIDES0, rfl⟩
    · exact ⟨_, kval_tup (vs := [V.str "older", V.str "newer"]) w_SIDES1 rfl rfl (show (2 : Nat) ≤ sizeLine from by decide) (.cons ⟨_, rfl⟩ (.cons ⟨_, rfl⟩ .nil)) (fun F => (.cons (by simp only [Rep]) rfl (.cons (by simp only [Rep]) rfl Reps.nil))), _, _, _, d_SIDES, y_SIDES, v_SIDES1, rfl⟩
    · exact ⟨_, kval_tup (vs := [V.str "older", V.str "older"]) w_SIDES2 rfl rfl (show (2 : Nat) ≤ sizeLine from by decide) (.cons ⟨_, rfl⟩ (.cons ⟨_, rfl⟩ .nil)) (fun F => (.cons (by simp only [Rep]) rfl (.cons (by simp only [Rep]) rfl Reps.nil))), _, _, _, d_SIDES, y_SIDES, v_SIDES2, rfl⟩
    · exact ⟨_, kval_tup (vs := [V.str "newer", V.str "newer"]) w_SIDES3 rfl rfl (show (2 : Nat) ≤ sizeLine from by decide) (.cons ⟨_, rfl⟩ (.cons ⟨_, rfl⟩ .nil)) (fun F => (.cons (by simp only [Rep]) rfl (.cons (by simp only [Rep]) rfl Reps.nil))), _, _, _, d_SIDES, y_SIDES, v_SIDES3, rfl⟩
  have Gc : Gcs T w mg := ⟨⟨_, PySem.W.mg_of X G u_MOST_FIELDS⟩, G_SIDES⟩
  have T_Forest : TC_Forest T mg := ⟨⟨pg_Forest, hd_Forest, po_Forest, sa_Forest⟩, hf_Forest, n_Forest_fields, n_Forest_parents, n_Forest_kinds, PySem.W.mg_of X G aC_Forest⟩
  have X_BadForest : XE l.prog w mg base T "BadForest" "BadForest" "field" My.FmtOk := ⟨x_BadForest ⟨PySem.W.mg_of X G aC_FieldridesError, rd_FieldridesError, gc_FieldridesError, vv_FieldridesError⟩ OX_BadForest nf_BadForest_field F_BadForest____init__, hf_BadForest⟩
  have X_BadPlace : XE l.prog w mg base T "BadPlace" "BadPlace" "place" My.FmtOk := ⟨x_BadPlace ⟨PySem.W.mg_of X G aC_FieldridesError, rd_FieldridesError, gc_FieldridesError, vv_FieldridesError⟩ OX_BadPlace nf_BadPlace_place F_BadPlace____init__, hf_BadPlace⟩
  have X_BadRecord : XE l.prog w mg base T "BadRecord" "BadRecord" "record" (fun _ => True) := ⟨x_BadRecord ⟨PySem.W.mg_of X G aC_FieldridesError, rd_FieldridesError, gc_FieldridesError, vv_FieldridesError⟩ OX_BadRecord nf_BadRecord_record F_BadRecord____init__, hf_BadRecord⟩
  have E : ErrF T known flsE ktab ftab := by
    refine ⟨fun c hc => ?_, fun c n b hb => ?_, fun c f i hi => ?_, fun c hc f hf => ?_⟩
    · simp only [known, List.mem_cons, List.not_mem_nil, or_false] at hc
      rcases hc with rfl | rfl | rfl
      · exact ⟨EC_BadForest, XF_BadForest⟩
      · exact ⟨EC_BadPlace, XF_BadPlace⟩
      · exact ⟨EC_BadRecord, XF_BadRecord⟩
    · have m := lookup_mem hb
      simp only [ktabL, List.mem_cons, List.not_mem_nil, or_false, Prod.mk.injEq] at m
      rcases m with ⟨⟨rfl, rfl⟩, rfl⟩ | ⟨⟨rfl, rfl⟩, rfl⟩ | ⟨⟨rfl, rfl⟩, rfl⟩ | ⟨⟨rfl, rfl⟩, rfl⟩ | ⟨⟨rfl, rfl⟩, rfl⟩ | ⟨⟨rfl, rfl⟩, rfl⟩ | ⟨⟨rfl, rfl⟩, rfl⟩ | ⟨⟨rfl, rfl⟩, rfl⟩ | ⟨⟨rfl, rfl⟩, rfl⟩ | ⟨⟨rfl, rfl⟩, rfl⟩ | ⟨⟨rfl, rfl⟩, rfl⟩ | ⟨⟨rfl, rfl⟩, rfl⟩ | ⟨⟨rfl, rfl⟩, rfl⟩ | ⟨⟨rfl, rfl⟩, rfl⟩ | ⟨⟨rfl, rfl⟩, rfl⟩ | ⟨⟨rfl, rfl⟩, rfl⟩ | ⟨⟨rfl, rfl⟩, rfl⟩ | ⟨⟨rfl, rfl⟩, rfl⟩ | ⟨⟨rfl, rfl⟩, rfl⟩ | ⟨⟨rfl, rfl⟩, rfl⟩ | ⟨⟨rfl, rfl⟩, rfl⟩ | ⟨⟨rfl, rfl⟩, rfl⟩ | ⟨⟨rfl, rfl⟩, rfl⟩ | ⟨⟨rfl, rfl⟩, rfl⟩ | ⟨⟨rfl, rfl⟩, rfl⟩ | ⟨⟨rfl, rfl⟩, rfl⟩ | ⟨⟨rfl, rfl⟩, rfl⟩
      · exact kit_yes ic_BadForest it_BadForest sub_BadForest_BadForest
      · exact kit_not ic_BadNumber it_BadNumber sub_BadForest_BadNumber ne_BadForest_BadNumber
      · exact kit_not ic_BadPlace it_BadPlace sub_BadForest_BadPlace ne_BadForest_BadPlace
      · exact kit_not ic_BadRecord it_BadRecord sub_BadForest_BadRecord ne_BadForest_BadRecord
      · exact kit_not ic_BadSizes it_BadSizes sub_BadForest_BadSizes ne_BadForest_BadSizes
      · exact kit_yes ic_FieldridesError it_FieldridesError sub_BadForest_FieldridesError
      · exact kit_not ic_Marked it_Marked sub_BadForest_Marked ne_BadForest_Marked
      · exact kit_not ic_NoRecord it_NoRecord sub_BadForest_NoRecord ne_BadForest_NoRecord
      · exact kit_VE subV_BadForest
      · exact kit_not ic_BadForest it_BadForest sub_BadPlace_BadForest ne_BadPlace_BadForest
      · exact kit_not ic_BadNumber it_BadNumber sub_BadPlace_BadNumber ne_BadPlace_BadNumber
      · exact kit_yes ic_BadPlace it_BadPlace sub_BadPlace_BadPlace
      · exact kit_not ic_BadRecord it_BadRecord sub_BadPlace_BadRecord ne_BadPlace_BadRecord
      · exact kit_not ic_BadSizes it_BadSizes sub_BadPlace_BadSizes ne_BadPlace_BadSizes
      · exact kit_yes ic_FieldridesError it_FieldridesError sub_BadPlace_FieldridesError
      · exact kit_not ic_Marked it_Marked sub_BadPlace_Marked ne_BadPlace_Marked
      · exact kit_not ic_NoRecord it_NoRecord sub_BadPlace_NoRecord ne_BadPlace_NoRecord
      · exact kit_VE subV_BadPlace
      · exact kit_not ic_BadForest it_BadForest sub_BadRecord_BadForest ne_BadRecord_BadForest
      · exact kit_not ic_BadNumber it_BadNumber sub_BadRecord_BadNumber ne_BadRecord_BadNumber
      · exact kit_not ic_BadPlace it_BadPlace sub_BadRecord_BadPlace ne_BadRecord_BadPlace
      · exact kit_yes ic_BadRecord it_BadRecord sub_BadRecord_BadRecord
      · exact kit_not ic_BadSizes it_BadSizes sub_BadRecord_BadSizes ne_BadRecord_BadSizes
      · exact kit_yes ic_FieldridesError it_FieldridesError sub_BadRecord_FieldridesError
      · exact kit_not ic_Marked it_Marked sub_BadRecord_Marked ne_BadRecord_Marked
      · exact kit_not ic_NoRecord it_NoRecord sub_BadRecord_NoRecord ne_BadRecord_NoRecord
      · exact kit_VE subV_BadRecord
    · have m := lookup_mem hi
      simp only [ftabL, List.mem_cons, List.not_mem_nil, or_false, Prod.mk.injEq] at m
      rcases m with ⟨⟨rfl, rfl⟩, rfl⟩ | ⟨⟨rfl, rfl⟩, rfl⟩
      · rw [hf_BadPlace]; exact ⟨rfl, by decide⟩
      · rw [hf_BadRecord]; exact ⟨rfl, by decide⟩
    · simp only [known, List.mem_cons, List.not_mem_nil, or_false] at hc
      simp only [flsE, List.mem_cons, List.not_mem_nil, or_false] at hf
      rcases hc with rfl | rfl | rfl <;> rcases hf with rfl | rfl
      · exact nf_BadForest_place
      · exact nf_BadForest_record
      · exact nf_BadPlace_place
      · exact nf_BadPlace_record
      · exact nf_BadRecord_place
      · exact nf_BadRecord_record
  have exm_BadPlace : ∀ c b, kin_BadPlace c = some b → PySem.W.exmOne T.K (.ref (T.ca c)) (.ref (T.ca "BadPlace")) = some b := by
    intro c b hb
    have m := lookup_mem hb
    simp only [kinL_BadPlace, List.mem_cons, List.not_mem_nil, or_false, Prod.mk.injEq] at m
    rcases m with ⟨rfl, rfl⟩ | ⟨rfl, rfl⟩ | ⟨rfl, rfl⟩
    · exact exm_own ib_BadPlace ic_BadPlace it_BadPlace sub_BadForest_BadPlace
    · exact exm_own ib_BadPlace ic_BadPlace it_BadPlace sub_BadPlace_BadPlace
    · exact exm_own ib_BadPlace ic_BadPlace it_BadPlace sub_BadRecord_BadPlace
  have exm_BadRecord : ∀ c b, kin_BadRecord c = some b → PySem.W.exmOne T.K (.ref (T.ca c)) (.ref (T.ca "BadRecord")) = some b := by
    intro c b hb
    have m := lookup_mem hb
    simp only [kinL_BadRecord, List.mem_cons, List.not_mem_nil, or_false, Prod.mk.injEq] at m
    rcases m with ⟨rfl, rfl⟩ | ⟨rfl, rfl⟩ | ⟨rfl, rfl⟩
    · exact exm_own ib_BadRecord ic_BadRecord it_BadRecord sub_BadForest_BadRecord
    · exact exm_own ib_BadRecord ic_BadRecord it_BadRecord sub_BadPlace_BadRecord
    · exact exm_own ib_BadRecord ic_BadRecord it_BadRecord sub_BadRecord_BadRecord
  have U : Env l.prog w mg base T := ⟨B, Gc, T_Forest, X_BadForest, X_BadPlace, X_BadRecord, PySem.W.mg_of X G aC_BadForest, PySem.W.mg_of X G aC_BadNumber, PySem.W.mg_of X G aC_BadPlace, PySem.W.mg_of X G aC_BadRecord, PySem.W.mg_of X G aC_BadSizes, PySem.W.mg_of X G aC_FieldridesError, PySem.W.mg_of X G aC_Marked, PySem.W.mg_of X G aC_NoRecord, E, exm_BadPlace, exm_BadRecord⟩
  have D__law_tape := d__law_tape U  F__law_tape
  have D__law_take := d__law_take U  F__law_take
  have D__law_turns := d__law_turns U D__law_take F__law_turns
  have D__law_parents := d__law_parents U D__law_turns D__law_take F__law_parents
  have D__law_kinds := d__law_kinds U D__law_take F__law_kinds
  have D__law_value := d__law_value U D__law_take F__law_value
  have D__law_record := d__law_record U D__law_value F__law_record
  have D__law_path := d__law_path U  F__law_path
  have D_way_ends := d_way_ends U  F_way_ends
  have D_is_ranked := d_is_ranked U  F_is_ranked
  have D_check_forest := d_check_forest U D_way_ends D_is_ranked F_check_forest
  have D_Forest____init__ := d_Forest____init__ U D_check_forest F_Forest____init__
  have D_check_place := d_check_place U  F_check_place
  have D_check_record := d_check_record U  F_check_record
  have D_sign := d_sign U  F_sign
  have D_signs := d_signs U D_sign F_signs
  have D_Forest__path := d_Forest__path U  F_Forest__path
  have D_first_marked := d_first_marked U D_Forest__path F_first_marked
  have D_first_unlike := d_first_unlike U D_check_place D_check_record D_signs D_first_marked F_first_unlike
  have D__law_unlike := d__law_unlike U D__law_path F__law_unlike
  have D__law_is_integer := d__law_is_integer U  F__law_is_integer
  have D__law_same := d__law_same U D__law_is_integer F__law_same
  have D_side_by := d_side_by U  F_side_by
  have D_forest_side := d_forest_side U D_first_marked D_side_by F_forest_side
  have D_Forest____call__ := d_Forest____call__ U D_check_record D_signs D_forest_side F_Forest____call__
  have D__law_is_record := d__law_is_record U D__law_is_integer F__law_is_record
  have D__law_side := d__law_side U D__law_path F__law_side
  have D__law_merge := d__law_merge U D__law_side F__law_merge
  have D__law_answers := d__law_answers U D_first_unlike D__law_unlike D__law_same D_Forest____call__ D__law_is_record D__law_merge F__law_answers
  have D__law_merged := d__law_merged U D_Forest____call__ F__law_merged
  have D__law_first := d__law_first U D_first_unlike F__law_first
  have D__law_refuses := d__law_refuses U D__law_take D__law_merged D__law_same D__law_first D__law_unlike F__law_refuses
  have D_better := d_better U  F_better
  have D_raised := d_raised U  F_raised
  have D__law_values := d__law_values U D__law_value D_better D_raised D__law_same F__law_values
  exact d_law U D__law_tape D__law_take D__law_parents D__law_kinds D__law_record D__law_path D_Forest____init__ D__law_answers D__law_refuses D__law_values Q36 LAW
end Law
open PySem PySem.W PyProof.Rows
set_option maxRecDepth 100000 in
set_option maxHeartbeats 0 in
theorem PySem.Challenge.cw_fieldrides_k07_merge_by_a_forest_holds : PySem.Challenge.rw_fieldrides_k07_merge_by_a_forest.Holds := by
  w_on; o_law; k_head; (case hw => w_witness2)
  k_fill
  refine VL.walkV (l := PySem.Challenge.rw_fieldrides_k07_merge_by_a_forest) (k := 7) rfl rfl ⟨rfl, by decide, by decide⟩ (fun w h Y => PySem.W.kIn_of Y) ?F
  case F =>
    intro w mg fa h KX G hmg
    refine' Law.all_mk KX G hmg ?aC_Forest ?aC_BadForest ?aC_BadPlace ?aC_BadRecord ?aC_FieldridesError ?aC_BadNumber ?aC_BadSizes ?aC_Marked ?aC_NoRecord ?pg_Forest ?hd_Forest ?po_Forest ?sa_Forest ?mk_Forest ?kc_Forest ?n_Forest_fields ?n_Forest_parents ?n_Forest_kinds ?rd_FieldridesError ?gc_FieldridesError ?vv_FieldridesError ?xL_BadForest ?sa_BadForest ?xs_BadForest ?ty_BadForest ?kc_BadForest ?xg_BadForest ?xk_BadForest ?xd_BadForest ?xa_BadForest ?xm_BadForest ?nf_BadForest_field ?nf_BadForest_place ?nf_BadForest_record ?xL_BadPlace ?sa_BadPlace ?xs_BadPlace ?ty_BadPlace ?kc_BadPlace ?xg_BadPlace ?xk_BadPlace ?xd_BadPlace ?xa_BadPlace ?xm_BadPlace ?nf_BadPlace_place ?nf_BadPlace_record ?xL_BadRecord ?sa_BadRecord ?xs_BadRecord ?ty_BadRecord ?kc_BadRecord ?xg_BadRecord ?xk_BadRecord ?xd_BadRecord ?xa_BadRecord ?xm_BadRecord ?nf_BadRecord_place ?nf_BadRecord_record ?xn_ ?xt_ ?ic_BadForest ?it_BadForest ?ic_BadNumber ?it_BadNumber ?ic_BadPlace ?it_BadPlace ?ib_BadPlace ?ic_BadRecord ?it_BadRecord ?ib_BadRecord ?ic_BadSizes ?it_BadSizes ?ic_FieldridesError ?it_FieldridesError ?ic_Marked ?it_Marked ?ic_NoRecord ?it_NoRecord ?sub_BadForest_BadForest ?sub_BadForest_BadNumber ?ne_BadForest_BadNumber ?sub_BadForest_BadPlace ?ne_BadForest_BadPlace ?sub_BadForest_BadRecord ?ne_BadForest_BadRecord ?sub_BadForest_BadSizes ?ne_BadForest_BadSizes ?sub_BadForest_FieldridesError ?sub_BadForest_Marked ?ne_BadForest_Marked ?sub_BadForest_NoRecord ?ne_BadForest_NoRecord ?subV_BadForest ?sub_BadPlace_BadForest ?ne_BadPlace_BadForest ?sub_BadPlace_BadNumber ?ne_BadPlace_BadNumber ?sub_BadPlace_BadPlace ?sub_BadPlace_BadRecord ?ne_BadPlace_BadRecord ?sub_BadPlace_BadSizes ?ne_BadPlace_BadSizes ?sub_BadPlace_FieldridesError ?sub_BadPlace_Marked ?ne_BadPlace_Marked ?sub_BadPlace_NoRecord ?ne_BadPlace_NoRecord ?subV_BadPlace ?sub_BadRecord_BadForest ?ne_BadRecord_BadForest ?sub_BadRecord_BadNumber ?ne_BadRecord_BadNumber ?sub_BadRecord_BadPlace ?ne_BadRecord_BadPlace ?sub_BadRecord_BadRecord ?sub_BadRecord_BadSizes ?ne_BadRecord_BadSizes ?sub_BadRecord_FieldridesError ?sub_BadRecord_Marked ?ne_BadRecord_Marked ?sub_BadRecord_NoRecord ?ne_BadRecord_NoRecord ?subV_BadRecord ?a1 ?l1 ?c1 ?k1 ?a2 ?l2 ?c2 ?k2 ?a3 ?l3 ?c3 ?k3 ?a4 ?l4 ?c4 ?k4 ?a5 ?l5 ?c5 ?k5 ?a6 ?l6 ?c6 ?k6 ?a7 ?l7 ?c7 ?k7 ?a8 ?l8 ?c8 ?k8 ?a9 ?l9 ?c9 ?k9 ?a10 ?l10 ?c10 ?k10 ?a11 ?l11 ?c11 ?k11 ?a12 ?i12 ?l12 ?c12 ?k12 ?a13 ?l13 ?c13 ?k13 ?a14 ?l14 ?c14 ?k14 ?a15 ?l15 ?c15 ?k15 ?a16 ?l16 ?c16 ?k16 ?a17 ?i17 ?l17 ?c17 ?k17 ?a18 ?l18 ?c18 ?k18 ?a19 ?l19 ?c19 ?k19 ?a20 ?l20 ?c20 ?k20 ?a21 ?l21 ?c21 ?k21 ?a22 ?l22 ?c22 ?k22 ?a23 ?l23 ?c23 ?k23 ?a24 ?l24 ?c24 ?k24 ?a25 ?i25 ?fi25 ?l25 ?c25 ?k25 ?a26 ?l26 ?c26 ?k26 ?a27 ?l27 ?c27 ?k27 ?a28 ?l28 ?c28 ?k28 ?a29 ?l29 ?c29 ?k29 ?a30 ?l30 ?c30 ?k30 ?a31 ?l31 ?c31 ?k31 ?a32 ?l32 ?c32 ?k32 ?a33 ?l33 ?c33 ?k33 ?a34 ?l34 ?c34 ?k34 ?a35 ?l35 ?c35 ?k35 ?a36 ?l36 ?c36 ?k36 ?a37 ?i37 ?l37 ?c37 ?k37 ?a38 ?i38 ?l38 ?c38 ?k38 ?a39 ?i39 ?l39 ?c39 ?k39 ?z_ValueError ?z_abs ?z_bool ?z_enumerate ?z_int ?z_isinstance ?z_len ?z_list ?z_range ?z_tuple ?z_zip ?u_MOST_FIELDS ?u_SIDES ?d_SIDES ?y_SIDES ?v_SIDES0 ?w_SIDES0 ?v_SIDES1 ?w_SIDES1 ?v_SIDES2 ?w_SIDES2 ?v_SIDES3 ?w_SIDES3
    (case aC_Forest => k_is)
    (case aC_BadForest => k_is)
    (case aC_BadPlace => k_is)
    (case aC_BadRecord => k_is)
    (case aC_FieldridesError => k_is)
    (case aC_BadNumber => k_is)
    (case aC_BadSizes => k_is)
    (case aC_Marked => k_is)
    (case aC_NoRecord => k_is)
    (case pg_Forest => k_is)
    (case hd_Forest => k_is)
    (case po_Forest => k_is)
    (case sa_Forest => k_is)
    (case mk_Forest => k_is)
    (case kc_Forest => k_is)
    (case n_Forest_fields => k_is)
    (case n_Forest_parents => k_is)
    (case n_Forest_kinds => k_is)
    (case rd_FieldridesError => k_is)
    (case gc_FieldridesError => k_is)
    (case vv_FieldridesError => k_is)
    (case xL_BadForest => k_is)
    (case sa_BadForest => k_is)
    (case xs_BadForest => k_is)
    (case ty_BadForest => k_is)
    (case kc_BadForest => k_is)
    (case xg_BadForest => k_is)
    (case xk_BadForest => k_is)
    (case xd_BadForest => k_is)
    (case xa_BadForest => k_is)
    (case xm_BadForest => k_is)
    (case nf_BadForest_field => k_is)
    (case nf_BadForest_place => k_is)
    (case nf_BadForest_record => k_is)
    (case xL_BadPlace => k_is)
    (case sa_BadPlace => k_is)
    (case xs_BadPlace => k_is)
    (case ty_BadPlace => k_is)
    (case kc_BadPlace => k_is)
    (case xg_BadPlace => k_is)
    (case xk_BadPlace => k_is)
    (case xd_BadPlace => k_is)
    (case xa_BadPlace => k_is)
    (case xm_BadPlace => k_is)
    (case nf_BadPlace_place => k_is)
    (case nf_BadPlace_record => k_is)
    (case xL_BadRecord => k_is)
    (case sa_BadRecord => k_is)
    (case xs_BadRecord => k_is)
    (case ty_BadRecord => k_is)
    (case kc_BadRecord => k_is)
    (case xg_BadRecord => k_is)
    (case xk_BadRecord => k_is)
    (case xd_BadRecord => k_is)
    (case xa_BadRecord => k_is)
    (case xm_BadRecord => k_is)
    (case nf_BadRecord_place => k_is)
    (case nf_BadRecord_record => k_is)
    (case xn_ => k_is)
    (case xt_ => k_is)
    (case ic_BadForest => k_is)
    (case it_BadForest => k_is)
    (case ic_BadNumber => k_is)
    (case it_BadNumber => k_is)
    (case ic_BadPlace => k_is)
    (case it_BadPlace => k_is)
    (case ib_BadPlace => k_is)
    (case ic_BadRecord => k_is)
    (case it_BadRecord => k_is)
    (case ib_BadRecord => k_is)
    (case ic_BadSizes => k_is)
    (case it_BadSizes => k_is)
    (case ic_FieldridesError => k_is)
    (case it_FieldridesError => k_is)
    (case ic_Marked => k_is)
    (case it_Marked => k_is)
    (case ic_NoRecord => k_is)
    (case it_NoRecord => k_is)
    (case sub_BadForest_BadForest => k_is)
    (case sub_BadForest_BadNumber => k_is)
    (case ne_BadForest_BadNumber => rfl)
    (case sub_BadForest_BadPlace => k_is)
    (case ne_BadForest_BadPlace => rfl)
    (case sub_BadForest_BadRecord => k_is)
    (case ne_BadForest_BadRecord => rfl)
    (case sub_BadForest_BadSizes => k_is)
    (case ne_BadForest_BadSizes => rfl)
    (case sub_BadForest_FieldridesError => k_is)
    (case sub_BadForest_Marked => k_is)
    (case ne_BadForest_Marked => rfl)
    (case sub_BadForest_NoRecord => k_is)
    (case ne_BadForest_NoRecord => rfl)
    (case subV_BadForest => k_is)
    (case sub_BadPlace_BadForest => k_is)
    (case ne_BadPlace_BadForest => rfl)
    (case sub_BadPlace_BadNumber => k_is)
    (case ne_BadPlace_BadNumber => rfl)
    (case sub_BadPlace_BadPlace => k_is)
    (case sub_BadPlace_BadRecord => k_is)
    (case ne_BadPlace_BadRecord => rfl)
    (case sub_BadPlace_BadSizes => k_is)
    (case ne_BadPlace_BadSizes => rfl)
    (case sub_BadPlace_FieldridesError => k_is)
    (case sub_BadPlace_Marked => k_is)
    (case ne_BadPlace_Marked => rfl)
    (case sub_BadPlace_NoRecord => k_is)
    (case ne_BadPlace_NoRecord => rfl)
    (case subV_BadPlace => k_is)
    (case sub_BadRecord_BadForest => k_is)
    (case ne_BadRecord_BadForest => rfl)
    (case sub_BadRecord_BadNumber => k_is)
    (case ne_BadRecord_BadNumber => rfl)
    (case sub_BadRecord_BadPlace => k_is)
    (case ne_BadRecord_BadPlace => rfl)
    (case sub_BadRecord_BadRecord => k_is)
    (case sub_BadRecord_BadSizes => k_is)
    (case ne_BadRecord_BadSizes => rfl)
    (case sub_BadRecord_FieldridesError => k_is)
    (case sub_BadRecord_Marked => k_is)
    (case ne_BadRecord_Marked => rfl)
    (case sub_BadRecord_NoRecord => k_is)
    (case ne_BadRecord_NoRecord => rfl)
    (case subV_BadRecord => k_is)
    (case a1 => k_is)
    (case l1 => k_is)
    (case c1 => k_is)
    (case k1 => k_is)
    (case a2 => k_is)
    (case l2 => k_is)
    (case c2 => k_is)
    (case k2 => k_is)
    (case a3 => k_is)
    (case l3 => k_is)
    (case c3 => k_is)
    (case k3 => k_is)
    (case a4 => k_is)
    (case l4 => k_is)
    (case c4 => k_is)
    (case k4 => k_is)
    (case a5 => k_is)
    (case l5 => k_is)
    (case c5 => k_is)
    (case k5 => k_is)
    (case a6 => k_is)
    (case l6 => k_is)
    (case c6 => k_is)
    (case k6 => k_is)
    (case a7 => k_is)
    (case l7 => k_is)
    (case c7 => k_is)
    (case k7 => k_is)
    (case a8 => k_is)
    (case l8 => k_is)
    (case c8 => k_is)
    (case k8 => k_is)
    (case a9 => k_is)
    (case l9 => k_is)
    (case c9 => k_is)
    (case k9 => k_is)
    (case a10 => k_is)
    (case l10 => k_is)
    (case c10 => k_is)
    (case k10 => k_is)
    (case a11 => k_is)
    (case l11 => k_is)
    (case c11 => k_is)
    (case k11 => k_is)
    (case a12 => k_is)
    (case i12 => k_is)
    (case l12 => k_is)
    (case c12 => k_is)
    (case k12 => k_is)
    (case a13 => k_is)
    (case l13 => k_is)
    (case c13 => k_is)
    (case k13 => k_is)
    (case a14 => k_is)
    (case l14 => k_is)
    (case c14 => k_is)
    (case k14 => k_is)
    (case a15 => k_is)
    (case l15 => k_is)
    (case c15 => k_is)
    (case k15 => k_is)
    (case a16 => k_is)
    (case l16 => k_is)
    (case c16 => k_is)
    (case k16 => k_is)
    (case a17 => k_is)
    (case i17 => k_is)
    (case l17 => k_is)
    (case c17 => k_is)
    (case k17 => k_is)
    (case a18 => k_is)
    (case l18 => k_is)
    (case c18 => k_is)
    (case k18 => k_is)
    (case a19 => k_is)
    (case l19 => k_is)
    (case c19 => k_is)
    (case k19 => k_is)
    (case a20 => k_is)
    (case l20 => k_is)
    (case c20 => k_is)
    (case k20 => k_is)
    (case a21 => k_is)
    (case l21 => k_is)
    (case c21 => k_is)
    (case k21 => k_is)
    (case a22 => k_is)
    (case l22 => k_is)
    (case c22 => k_is)
    (case k22 => k_is)
    (case a23 => k_is)
    (case l23 => k_is)
    (case c23 => k_is)
    (case k23 => k_is)
    (case a24 => k_is)
    (case l24 => k_is)
    (case c24 => k_is)
    (case k24 => k_is)
    (case a25 => k_is)
    (case i25 => k_is)
    (case fi25 => k_is)
    (case l25 => k_is)
    (case c25 => k_is)
    (case k25 => k_is)
    (case a26 => k_is)
    (case l26 => k_is)
    (case c26 => k_is)
    (case k26 => k_is)
    (case a27 => k_is)
    (case l27 => k_is)
    (case c27 => k_is)
    (case k27 => k_is)
    (case a28 => k_is)
    (case l28 => k_is)
    (case c28 => k_is)
    (case k28 => k_is)
    (case a29 => k_is)
    (case l29 => k_is)
    (case c29 => k_is)
    (case k29 => k_is)
    (case a30 => k_is)
    (case l30 => k_is)
    (case c30 => k_is)
    (case k30 => k_is)
    (case a31 => k_is)
    (case l31 => k_is)
    (case c31 => k_is)
    (case k31 => k_is)
    (case a32 => k_is)
    (case l32 => k_is)
    (case c32 => k_is)
    (case k32 => k_is)
    (case a33 => k_is)
    (case l33 => k_is)
    (case c33 => k_is)
    (case k33 => k_is)
    (case a34 => k_is)
    (case l34 => k_is)
    (case c34 => k_is)
    (case k34 => k_is)
    (case a35 => k_is)
    (case l35 => k_is)
    (case c35 => k_is)
    (case k35 => k_is)
    (case a36 => k_is)
    (case l36 => k_is)
    (case c36 => k_is)
    (case k36 => k_is)
    (case a37 => k_is)
    (case i37 => k_is)
    (case l37 => k_is)
    (case c37 => k_is)
    (case k37 => k_is)
    (case a38 => k_is)
    (case i38 => k_is)
    (case l38 => k_is)
    (case c38 => k_is)
    (case k38 => k_is)
    (case a39 => k_is)
    (case i39 => k_is)
    (case l39 => k_is)
    (case c39 => k_is)
    (case k39 => k_is)
    (case z_ValueError => k_is)
    (case z_abs => k_is)
    (case z_bool => k_is)
    (case z_enumerate => k_is)
    (case z_int => k_is)
    (case z_isinstance => k_is)
    (case z_len => k_is)
    (case z_list => k_is)
    (case z_range => k_is)
    (case z_tuple => k_is)
    (case z_zip => k_is)
    (case u_MOST_FIELDS => k_is)
    (case u_SIDES => k_is)
    (case d_SIDES => k_is)
    (case y_SIDES => exact ⟨⟨_, _, rfl, rfl⟩, ⟨_, _, rfl, rfl⟩, ⟨_, _, rfl, rfl⟩, ⟨_, _, rfl, rfl⟩, trivial⟩)
    (case v_SIDES0 => k_is)
    (case w_SIDES0 => k_is)
    (case v_SIDES1 => k_is)
    (case w_SIDES1 => k_is)
    (case v_SIDES2 => k_is)
    (case w_SIDES2 => k_is)
    (case v_SIDES3 => k_is)
    (case w_SIDES3 => k_is)

