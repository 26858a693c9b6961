import PyProof.Rows.All
import Wide.All
import OpenK.AllK
import Wide.FinOn
import HandS.ForMost
import HandS.ForExc
import HandS.IsInst
import HandS.Strs
import HandS.SetFor
import HandS.SortInts
import HandS.Wide
import HandS.TupAny
import HandS.More
import PySem.Challenge.RW_fieldrides_k26_whole_needed_fields
set_option Elab.async false
set_option linter.all false
set_option maxRecDepth 100000
/-! My base: defs by name, heaps but for one list, sets of ints from a list. -/
namespace My
open PySem PySem.Spec PyProof.Rows L2

/-! ### a def that stands under a name of the module -/
structure Df (K : PySem.W.Frag) (mg : Str → Option Value) (x : Str) (st : Stmt) (ps : List Str) : Prop where
  ex : ∃ (f : Addr) (fd : FuncData), Fun K x x st f fd ∧ Binds K fd ps [] ∧ mg x = some (.ref f)
structure Dn (P : Program) (w : World) (K : PySem.W.Frag) (mg : Str → Option Value) (base : Heap) (k : Nat) (x : Str) (sp : Sp) : Prop where
  ex : ∃ (f : Addr) (fd : FuncData) (ps : List Str), FnOk P w K mg base CX0 k f fd ps sp ∧ mg x = some (.ref f) ∧ PySem.W.keepIn K (.ref f) = true ∧ Binds K fd ps []
section
variable {P : Program} {w : World} {K : PySem.W.Frag} {mg : Str → Option Value} {base : Heap}
theorem Df.ok {x : Str} {st : Stmt} {N ps : List Str} {k : Nat} {sp : Sp} (F : Df K mg x st ps) (S : FnScope N ps (defScope st)) (len : ∀ vs H Q E, sp vs H Q E → vs.length = ps.length)
    (body : ∀ (f : Addr) (cdv : Value) (A : Around) (outer : List Env) (s : Shared) (H : Hp) (vs : List V) (Q : VK) (E : XK),
      Room k (A.deeper (envOfC x (defScope st) s.heap.objs.size f cdv)) → sp vs H Q E →
      ∃ t, PSs (cxOf CX0 P w K mg base N x (defScope st) f cdv A outer s H E).nox (defBody st) t ∧
        t { nx := fun _ H' => Q .non H', rt := Q } (start N vs) H) : Dn P w K mg base (k + 1) x sp := by
  obtain ⟨f, fd, F, b, m⟩ := F.ex
  exact ⟨f, fd, ps, F.ok S len (body f), m, F.kp, b⟩
theorem Dn.mono {x : Str} {j k : Nat} {sp : Sp} (D : Dn P w K mg base j x sp) (h : j ≤ k) : Dn P w K mg base k x sp := by
  obtain ⟨f, fd, ps, F, m, q, b⟩ := D.ex
  exact ⟨f, fd, ps, F.mono h, m, q, b⟩
theorem Dn.imp {x : Str} {k : Nat} {sp sp' : Sp} (D : Dn P w K mg base k x sp) (h : ∀ vs H Q E, sp' vs H Q E → sp vs H Q E) : Dn P w K mg base k x sp' := by
  obtain ⟨f, fd, ps, F, m, q, b⟩ := D.ex
  exact ⟨f, fd, ps, F.imp h, m, q, b⟩
/-- nothing is promised of a call that can't be -/
theorem Df.none {x : Str} {st : Stmt} {ps : List Str} {sp : Sp} (F : Df K mg x st ps) (no : ∀ vs H Q E, ¬ sp vs H Q E) (k : Nat) : Dn P w K mg base k x sp := by
  obtain ⟨f, fd, F, b, m⟩ := F.ex
  exact ⟨f, fd, ps, ⟨fun vs H Q E h => absurd h (no vs H Q E), fun A outer s H args us vs Q E _ _ _ _ h => absurd h (no vs H Q E)⟩, m, F.kp, b⟩
end
section
variable {X : Cx} {k : Nat} {x : Str} {sp : Sp} {e : Expr} {es : List Expr} {t : TA} {p pos : Pos}
theorem pe_callD (D : Dn X.prog X.w X.K X.mg X.base k x sp) (hr : Room k X.A) (hg : Gl X x) (ha : PA X (e :: es) t) (hdb : (x == ("__debug__" : Str)) = false := by decide)
    (he : starEach (e :: es) X.env = (false, eval e X.env) :: starEach es X.env := by rfl) (hpl : (backTo pos (starEach es X.env)).any (·.1) = false := by rfl) :
    PE X (.Call (.Name x p) (e :: es) [] pos) (tCall sp [] E0 t) := by
  obtain ⟨f, fd, ps, F, m, q, b⟩ := D.ex
  exact pe_call F hr hg m q b .nil pass0 ha hdb he hpl
theorem pe_callD0 (D : Dn X.prog X.w X.K X.mg X.base k x sp) (hr : Room k X.A) (hg : Gl X x) (hdb : (x == ("__debug__" : Str)) = false := by decide) :
    PE X (.Call (.Name x p) [] [] pos) (tCall sp [] E0 tNil) := by
  obtain ⟨f, fd, ps, F, m, q, b⟩ := D.ex
  exact pe_call0 F hr hg m q b .nil pass0 hdb
end

/-! ### heaps -/
theorem same_new {H : Hp} {p : Addr} (h : H p = Option.none) (o : HO) : Same H (upd H p o) := fun b u q => by rw [upd_ne (ne_of_none q h)]; exact q
/-- all but what stands at t is as it was -/
def But (t : Addr) (H H' : Hp) : Prop := ∀ b o, b ≠ t → H b = some o → H' b = some o
theorem But.refl (t : Addr) (H : Hp) : But t H H := fun _ _ _ h => h
theorem But.trans {t : Addr} {H H1 H2 : Hp} (a : But t H H1) (b : But t H1 H2) : But t H H2 := fun c o n h => b c o n (a c o n h)
theorem But.of {t : Addr} {H H' : Hp} (h : Same H H') : But t H H' := fun b o _ q => h b o q
theorem But.upd {t : Addr} {H : Hp} (o : HO) : But t H (upd H t o) := fun b u n q => by rw [upd_ne n]; exact q
theorem But.new {t p : Addr} {H : Hp} (h : H p = Option.none) (o : HO) : But t H (L2.upd H p o) := .of (same_new h o)
theorem But.tup {t p : Addr} {H H' : Hp} {l xs : List V} (b : But t H H') (ht : H t = some (.lst l)) (h : H p = some (.tup xs)) : H' p = some (.tup xs) :=
  b p _ (ne_of h ht (by intro z; cases z)) h
/-- from the heap ahead of the list at t -/
theorem But.same {t : Addr} {H0 H' : Hp} {o : HO} (n : H0 t = Option.none) (b : But t (L2.upd H0 t o) H') : Same H0 H' := fun c u q =>
  b c u (ne_of_none q n) (by rw [upd_ne (ne_of_none q n)]; exact q)
theorem _root_.L2.Same.seqT {K : PySem.W.Frag} {H H' : Hp} {a : Addr} {xs : List V} (e : Same H H') (h : SqT K H a xs) : SqT K H' a xs := by
  rcases h with (h | ⟨o, h⟩) | h
  · exact .inl (.inl (e _ _ h))
  · exact .inl (.inr ⟨o, e _ _ h⟩)
  · exact .inr h

/-! ### numbers in a list -/
theorem nodup_small : ∀ (n : Nat) (ds : List Int), ds.Nodup → (∀ z ∈ ds, 0 ≤ z ∧ z < (n : Int)) → ds.length ≤ n
  | 0, [], _, _ => Nat.le_refl _
  | 0, d :: ds, _, h => by have := h d (List.mem_cons_self ..); omega
  | n + 1, ds, nd, h => by
    have q := nodup_small n (ds.erase (n : Int)) (nd.erase _) fun z hz => by
      have h1 := h z (List.mem_of_mem_erase hz)
      have h2 : z ≠ (n : Int) := fun e => by
        subst e
        exact (nd.not_mem_erase hz)
      omega
    have l := List.length_erase_le (a := (n : Int)) (l := ds)
    by_cases m : (n : Int) ∈ ds
    · rw [List.length_erase_of_mem m] at q
      omega
    · rw [List.erase_of_not_mem m] at q
      omega

/-! ### the set of a list of ints -/
section
variable {P : Program} {w : World} {A : Around} {E : Value → Shared → Prop} {s : Shared}
set_option maxHeartbeats 3200000 in
theorem set_of_ints {l : Addr} {xs : Array Value} (ns : List Int) {Q : Value → Shared → Prop} (hh : A.handled = none) (hl : s.heap.IsList l xs) (hit : IntsAre xs.toList ns) (hb : ns.length + 1 < scanBound)
    (q : ∀ (h' : Heap) (tk c : Nat), SetR w h' s.heap.objs.size (fun j => decide (j ∈ ns)) c → (∀ b o, s.heap.get? b = some o → h'.get? b = some o) → Q (.ref s.heap.objs.size) { s with heap := h', toks := tk }) :
    wpAny (model P w) A (call (.type "set") [.ref l]) Q E s := by
  have size_eq : xs.size = ns.length := by
    have z := IntsAre.length hit
    rwa [Array.length_toList] at z
  let S0 : Obj := { cls := .type "set", dict := none, data := .set #[] 0 (.fresh 0 0 (!w.params.followText "set-order")) }
  obtain ⟨c1, t1, m1⟩ := F.called_set.mro
  have m2 := F.called_set.made; have m3 := F.called_set.sub
  refine wpAny_call (codeAny_of_tree ?_)
  change wpAny _ _ (callAny (.type "set") _) _ _ _
  refine wpAny_pure ⟨Code.quiet_builtin _ (by decide +kernel), ?_⟩
  refine codeAny_builtin F.entry_type_call ?_
  rw [Around.under_plain (weight_type_call_type "set" [Value.ref l] []) rfl]
  have m4 := F.called_set.notType; have m5 := F.called_set.canCreate; have m6 := F.typeCall_set_1 (.ref l)
  repeat (any_goals (first | wp_step | assumption))
  refine codeAny_mono (code_set_led1 (.ref l) (E := E) (Q₁ := fun v z => v = .ref s.heap.objs.size ∧ z = { s with heap := s.heap.push S0 }) ⟨rfl, rfl⟩) fun r z hr => ?_
  match r, hr with
  | .error e, hr => exact hr
  | .ok .next, hr => exact hr.elim
  | .ok .brk, hr => exact hr.elim
  | .ok .cont, hr => exact hr.elim
  | .ok (.ret v), hr =>
    obtain ⟨rfl, rfl⟩ := hr
    have at0 : (s.heap.push S0).get? s.heap.objs.size = some S0 := Heap.get?_push_size _ rfl
    have ty0 : Shared.TypeIs { s with heap := s.heap.push S0 } (.ref s.heap.objs.size) "set" := ⟨_, at0, rfl⟩
    have i1 := F.called_set.init.lookup; have i2 := F.called_set.init.bind (.ref s.heap.objs.size)
    repeat (any_goals (first | wp_step | assumption))
    refine codeAny_mono (codeAny_call_builtin (R := wants (fun r z => r = .none ∧ ∃ h' tk c, z = { s with heap := h', toks := tk } ∧ SetR w h' s.heap.objs.size (fun j => decide (j ∈ ns)) c ∧ (∀ b o, s.heap.get? b = some o → h'.get? b = some o)) E)
      F.called_set.init.plain F.entry_set_init (check_set_init_1 ty0 ?_)) fun r2 z2 hr2 => ?_
    · obtain ⟨⟨oc, od, oda, osl⟩, g0, g1, nn, g2⟩ := hl
      simp only at g1 g2
      subst g1; subst g2
      have old : (s.heap.push S0).get? l = some { cls := .type "list", dict := od, data := .seq xs nn, slots := osl } := Heap.get?_push_of_some _ g0
      have n1 := F.sub_list_set; have n2 := F.sub_list_frozenset
      have n3 : (Value.type "list" == Value.type "dict") = false := by decide
      have li : (s.heap.push S0).IsList l xs := ⟨_, old, rfl, nn, rfl⟩
      unfold Builtin.«set.__init__» noKeywords Builtin.Frozenset.updateFrom
      generalize hPI : pyIter = PI
      wp_walk
      subst hPI
      refine wpAny_pyIter_list li (wpAny_bind (wpAny_runValue ?_))
      have l0 : l < s.heap.objs.size := Heap.lt_size g0
      have hd0 : A.in1.in1.in1.handled = none := by simp [hh]
      have sz1 : (s.heap.push S0).objs.size = s.heap.objs.size + 1 := Heap.size_push ..
      have l1 : l ≠ (s.heap.push S0).objs.size := by rw [sz1]; exact Nat.ne_of_lt (Nat.lt_succ_of_lt l0)
      have s1 : s.heap.objs.size ∉ [(s.heap.push S0).objs.size, l] := by
        rw [sz1]
        simp only [List.mem_cons, List.not_mem_nil, or_false, not_or]
        exact ⟨Nat.ne_of_lt (Nat.lt_succ_self _), Nat.ne_of_gt l0⟩
      have items : ∀ (i : Nat) (v : Value), xs[i]? = some v → ∃ k t, ns[i]? = some k ∧ v = .int k t := fun i v hv => by
        have lt : i < ns.length := by rw [← size_eq]; exact (Array.getElem?_eq_some_iff.mp hv).1
        obtain ⟨t, e⟩ := PyProof.Rows.IntsAre.int_at hit i v (by rw [Array.getElem?_toList]; exact hv)
        exact ⟨ns[i], t, List.getElem?_eq_getElem lt, by rw [e, List.getD_eq_getElem?_getD, List.getElem?_eq_getElem lt]; rfl⟩
      refine set_update_ints ((Walks.list hd0 _ l l1 xs).toS) s.heap.objs.size s1 ns size_eq hb items (xs.size - 0) 0 _ (by omega) (Nat.zero_le _) ⟨⟨_, Heap.get?_push_size _ rfl, rfl, rfl⟩, (li.push _)⟩ ?first ?last
      case first => exact ⟨0, Nat.le_refl 0, setR_new_at (Heap.get?_push_of_some _ at0)⟩
      case last =>
        intro z c hm _ hz
        obtain ⟨h', g2, d', tk', os'⟩ := z
        obtain rfl : g2 = s.gens := hm.gens
        obtain rfl : d' = s.drawn := hm.drawn
        obtain rfl : os' = s.os := hm.os
        show wpAny _ _ _ _ _ _
        refine wpAny_pure (?_ : wpAny _ _ (ret Value.none) _ _ _)
        refine wpAny_pure ⟨rfl, h', tk', c, rfl, hz, fun b o e => ?_⟩
        have b0 := Heap.lt_size e
        refine hm.heap b o ?_ (Heap.get?_push_of_some _ (Heap.get?_push_of_some _ e))
        rw [sz1]
        simp only [List.mem_cons, List.not_mem_nil, or_false, not_or]
        exact ⟨Nat.ne_of_lt b0, Nat.ne_of_lt (Nat.lt_succ_of_lt b0)⟩
    · match r2, hr2 with
      | .error e, hr2 => exact hr2
      | .ok .next, hr2 => exact hr2.elim
      | .ok .brk, hr2 => exact hr2.elim
      | .ok .cont, hr2 => exact hr2.elim
      | .ok (.ret v2), hr2 =>
        obtain ⟨rfl, h', tk, c, rfl, hz, hk⟩ := hr2
        repeat (any_goals (first | wp_step | assumption))
        exact q _ _ _ hz hk
end
theorem SetR.list {w : World} {h : Heap} {a : Addr} {S : Int → Bool} {n : Nat} (R : SetR w h a S n) : ∃ ds : List Int, ds.Nodup ∧ (∀ z, z ∈ ds ↔ S z = true) ∧ ds.length = n := by
  obtain ⟨o, es, ep, t, _, _, _, _, nd, m, _, _, e, _⟩ := R
  exact ⟨es.toList.map keyOf, nd, fun z => (m z).symm, by rw [List.length_map, Array.length_toList]; exact e⟩
/-- set(xs), xs a list of ints -/
def rSetI (K : PySem.W.Frag) (w : World) : List V → Hp → VK → Prop := fun vs H Q => ∃ (a : Addr) (ns : List Int), vs = [.ref a] ∧ SqL K H a (ns.map V.int) ∧ ns.length + 1 < scanBound ∧
  ∀ (p : Addr) (ds : List Int), ds.Nodup → (∀ z, z ∈ ds ↔ z ∈ ns) → H p = none → Q (.ref p) (upd H p (SetO w p (fun j => decide (j ∈ ns)) ds.length))
theorem call_setI {X : Cx} (hc : X.calm = true) : CallR X (.type "set") (rSetI X.K X.w) := by
  intro pins s σ H vs us Q I r h
  obtain ⟨a, ns, rfl, hS, hb, q⟩ := h
  obtain ⟨its, rv, pl, hz⟩ := I.list hS
  rw [Vals.ref1 r]
  refine set_of_ints (xs := its.toArray) ns (I.ok.hd hc) pl.isList (Vals.ints rv) hb fun h' tk c R k => ?_
  obtain ⟨ds, nd, m, e⟩ := SetR.list R
  have hn : H s.heap.objs.size = none := I.hok.fresh (Nat.le_refl _)
  refine ⟨.ref s.heap.objs.size, upd H s.heap.objs.size (SetO X.w s.heap.objs.size (fun j => decide (j ∈ ns)) c), I.laid (t' := tk) k (Nat.le_refl _) (setO_new R), rfl, ?_⟩
  have q' := q s.heap.objs.size ds nd (fun z => by rw [m z]; simp) hn
  rwa [e] at q'
end My

set_option Elab.async false
set_option linter.all false
set_option maxRecDepth 100000
/-! My trees: nested tuples (field, less, same, more) with texts at their ends; how they lie in a heap. -/
namespace My
open PySem PySem.Spec PyProof.Rows L2

/-! ### answers of built-ins -/
section
variable {K : PySem.W.Frag}
theorem k_ss : PySem.W.kitOne K (.type "str") (.type "str") = some true := kit_ty (by decide +kernel)
theorem k_ts : PySem.W.kitOne K (.type "tuple") (.type "str") = some false := kit_ty (by decide +kernel)
theorem k_tt : PySem.W.kitOne K (.type "tuple") (.type "tuple") = some true := kit_ty (by decide +kernel)
theorem k_st : PySem.W.kitOne K (.type "str") (.type "tuple") = some false := kit_ty (by decide +kernel)
theorem k_ii : PySem.W.kitOne K (.type "int") (.type "int") = some true := kit_ty (by decide +kernel)
theorem k_ib : PySem.W.kitOne K (.type "int") (.type "bool") = some false := kit_ty (by decide +kernel)
theorem k_ll : PySem.W.kitOne K (.type "list") (.type "list") = some true := kit_ty (by decide +kernel)
theorem k_bb : PySem.W.kitOne K (.type "bool") (.type "bool") = some true := kit_ty (by decide +kernel)
end
theorem small {n : Nat} (h : n ≤ 100000) : n ≤ sizeLine := by rw [sizeLine_eq]; omega
theorem smallLt {n : Nat} (h : n ≤ 100000) : n < sizeLine := by rw [sizeLine_eq]; omega
theorem map_ne {α β : Type} {f : α → β} {l : List α} (h : l ≠ []) : l.map f ≠ [] := fun e => h (List.map_eq_nil_iff.mp e)

/-! ### cutting a reading -/
/-- a test with what holds behind it -/
theorem if_split {tc : TT} {t u : TS} {D : Ends} {σ : L2.St} {H : Hp} (C : Bool → Hp → Prop) (h : ∀ Q : Bool → Hp → Prop, (∀ b H1, C b H1 → Q b H1) → tc σ H Q)
    (ht : ∀ H1, C true H1 → t D σ H1) (hf : ∀ H1, C false H1 → u D σ H1) : tIfS tc t u D σ H := h _ fun b H1 c => by
  cases b
  · exact iteF (hf H1 c)
  · exact iteT (ht H1 c)
/-- a statement that goes on, with what holds behind it -/
theorem st_split {t u : TS} {D : Ends} {σ : L2.St} {H : Hp} (C : L2.St → Hp → Prop) (h : ∀ D' : Ends, (∀ σ' H', C σ' H' → D'.nx σ' H') → t D' σ H) (q : ∀ σ' H', C σ' H' → u D σ' H') : tSeq t u D σ H := h _ q

theorem st_splitR {t u : TS} {D : Ends} {σ : L2.St} {H : Hp} (C : L2.St → Hp → Prop) (h : ∀ D' : Ends, D'.rt = D.rt → (∀ σ' H', C σ' H' → D'.nx σ' H') → t D' σ H) (q : ∀ σ' H', C σ' H' → u D σ' H') : tSeq t u D σ H := h _ rfl q

/-! ### the law's tape: two numbers, not below 0 -/
def Tape (H : Hp) (t : Addr) : Prop := ∃ c k : Int, H t = some (.lst [.int c, .int k]) ∧ 0 ≤ c ∧ 0 ≤ k
theorem Tape.lst {H : Hp} {t : Addr} (h : Tape H t) : ∃ l, H t = some (.lst l) := by
  obtain ⟨c, k, h, _⟩ := h
  exact ⟨_, h⟩
theorem Tape.same {H H' : Hp} {t : Addr} (h : Tape H t) (e : Same H H') : Tape H' t := by
  obtain ⟨c, k, h, q⟩ := h
  exact ⟨c, k, e _ _ h, q⟩
theorem Tape.ne {H : Hp} {t p : Addr} (h : Tape H t) (n : H p = none) : p ≠ t := by
  obtain ⟨l, h⟩ := h.lst
  exact fun e => ne_of_none h n e.symm
theorem Tape.but {H H' : Hp} {t u : Addr} (h : Tape H t) (b : But u H H') (n : t ≠ u) : Tape H' t := by
  obtain ⟨c, k, h, q⟩ := h
  exact ⟨c, k, b _ _ n h, q⟩
theorem Tape.upd {H : Hp} {t D : Addr} {o : HO} (h : Tape H t) (n : D ≠ t) : Tape (L2.upd H D o) t := by
  obtain ⟨c, k, h, q⟩ := h
  exact ⟨c, k, by rw [upd_ne n.symm]; exact h, q⟩
/-- a store to what came later -/
theorem But.later {t D : Addr} {H H' : Hp} {o : HO} (b : But t H H') (n : H D = none) : But t H (L2.upd H' D o) := fun c u ne q => by rw [upd_ne (ne_of_none q n)]; exact b c u ne q
theorem _root_.L2.Same.later {D : Addr} {H H' : Hp} {o : HO} (b : Same H H') (n : H D = none) : Same H (L2.upd H' D o) := fun c u q => by rw [upd_ne (ne_of_none q n)]; exact b c u q
theorem But.free {t D : Addr} {H H' : Hp} (b : But t H H') (n : H' D = none) (ne : D ≠ t) : H D = none := by
  cases q : H D with
  | none => rfl
  | some o => rw [b D o ne q] at n; cases n
/-! ### rules within a comprehension: the written part said outright -/
section
variable {X : Cx} {K : PySem.W.Frag}
theorem ix_listK (h : X.K = K) : IxR X (rIxL K) := h ▸ ix_list
theorem ix_tupK (h : X.K = K) : IxR X (rIxT K) := h ▸ ix_tup
theorem ix_seqK (h : X.K = K) : IxR X (rIx K) := h ▸ ix_seq
theorem isiK (h : X.K = K) : CallR X (.builtin "isinstance") (rIsi K) := h ▸ call_isi
def rLen (K : PySem.W.Frag) : List V → Hp → VK → Prop := fun xs H Q => ∃ p ys, xs = [.ref p] ∧ (SqL K H p ys ∨ SqT K H p ys) ∧ Q (.int ys.length) H
theorem lenK (h : X.K = K) : CallR X (.builtin "len") (rLen K) := h ▸ call_len_seq
def rListOf (K : PySem.W.Frag) : List V → Hp → VK → Prop := fun xs H Q => ∃ p ys, xs = [.ref p] ∧ (SqL K H p ys ∨ SqT K H p ys) ∧ ∀ l, H l = none → Q (.ref l) (upd H l (.lst ys))
theorem listOfK (h : X.K = K) : CallR X (.type "list") (rListOf K) := h ▸ call_list_of
def rTupleOf (K : PySem.W.Frag) : List V → Hp → VK → Prop := fun xs H Q => ∃ p ys, xs = [.ref p] ∧ ((SqL K H p ys ∧ ∀ l, H l = none → Q (.ref l) (upd H l (.tup ys))) ∨ (SqT K H p ys ∧ Q (.ref p) H))
theorem tupleOfK (h : X.K = K) : CallR X (.type "tuple") (rTupleOf K) := h ▸ call_tuple_of
theorem in_seqK (h : X.K = K) : OpR X (compareOp .In) (rIn K false) := h ▸ op_in_seq
theorem notIn_seqK (h : X.K = K) : OpR X (compareOp .NotIn) (rIn K true) := h ▸ op_notIn_seq
theorem sl_listK (h : X.K = K) : SlR X (rSlL K) := h ▸ sl_list
theorem sl_tupAK (h : X.K = K) : SlR X (rSlA K) := h ▸ sl_tupA
theorem catAK (h : X.K = K) : OpR X (binaryOp .Add) (rCatA K) := h ▸ op_catA
theorem eqDK (hu : X.A.units + 64 < cLine) (h : X.K = K) : OpR X (compareOp .Eq) (rEqD K) := h ▸ op_eqD hu
theorem neDK (hu : X.A.units + 64 < cLine) (h : X.K = K) : OpR X (compareOp .NotEq) (rNeD K) := h ▸ op_neD hu
end
def spTake : Sp := fun vs H Q _ => ∃ (t : Addr) (n : Int), vs = [.ref t, .int n] ∧ Tape H t ∧ 0 < n ∧ n < 1073741824 ∧
  ∀ (H' : Hp) (r : Int), But t H H' → Tape H' t → 0 ≤ r → r < n → Q (.int r) H'
def spTape (K : PySem.W.Frag) : Sp := fun vs H Q _ => ∃ (a : Addr) (ns : List Int) (k : Int), vs = [.ref a, .int k] ∧ SqL K H a (ns.map V.int) ∧ 0 ≤ k ∧
  ∀ (t : Addr) (c : Int), H t = none → 0 ≤ c → Q (.ref t) (upd H t (.lst [.int c, .int 0]))
theorem tape_new {H : Hp} {t : Addr} {c : Int} (h : 0 ≤ c) : Tape (upd H t (.lst [.int c, .int 0])) t := ⟨c, 0, upd_same, h, Int.le_refl 0⟩

/-! ### trees -/
inductive Tr where
  | leaf (s : Str)
  | ask (f : Int) (a b c : Tr)
  deriving DecidableEq
namespace Tr
def depth : Tr → Nat
  | leaf _ => 0
  | ask _ a b c => max a.depth (max b.depth c.depth) + 1
def asks : Tr → Nat
  | leaf _ => 0
  | ask _ a b c => a.asks + b.asks + c.asks + 1
def ends : Tr → List Str
  | leaf s => [s]
  | ask _ a b c => a.ends ++ b.ends ++ c.ends
def fields : Tr → List Int
  | leaf _ => []
  | ask f a b c => [f] ++ a.fields ++ b.fields ++ c.fields
def pick (x : Int) (a b c : Tr) : Tr := if x = -1 then a else if x = 0 then b else c
/-- the sign of a field in a row -/
def sgn (rs : List Int) (f : Int) : Int := rs.getD f.toNat 0
def follow (rs : List Int) : Tr → Str
  | leaf s => s
  | ask f a b c => if sgn rs f = -1 then a.follow rs else if sgn rs f = 0 then b.follow rs else c.follow rs
/-- every asked field lies in 0 .. n-1 -/
def Below (n : Int) : Tr → Prop
  | leaf _ => True
  | ask f a b c => 0 ≤ f ∧ f < n ∧ a.Below n ∧ b.Below n ∧ c.Below n
/-- every end is one of the two words -/
def Two : Tr → Prop
  | leaf s => s = "older" ∨ s = "newer"
  | ask _ a b c => a.Two ∧ b.Two ∧ c.Two
theorem ends_len : ∀ t : Tr, t.ends.length = 2 * t.asks + 1
  | leaf _ => rfl
  | ask f a b c => by
    have h1 := ends_len a; have h2 := ends_len b; have h3 := ends_len c
    simp only [ends, asks, List.length_append]; omega
theorem fields_len : ∀ t : Tr, t.fields.length = t.asks
  | leaf _ => rfl
  | ask f a b c => by
    have h1 := fields_len a; have h2 := fields_len b; have h3 := fields_len c
    simp only [fields, asks, List.length_append, List.length_cons, List.length_nil]; omega
theorem ends_ne (t : Tr) : t.ends ≠ [] := fun e => by
  have h := ends_len t
  rw [e, List.length_nil] at h
  omega
theorem depth_le : ∀ t : Tr, t.depth ≤ t.asks
  | leaf _ => Nat.le_refl _
  | ask f a b c => by
    have h1 := depth_le a; have h2 := depth_le b; have h3 := depth_le c
    simp only [depth, asks]; omega
theorem below_mem : ∀ {t : Tr} {n : Int}, t.Below n → ∀ z ∈ t.fields, 0 ≤ z ∧ z < n
  | leaf _, _, _, z, h => by cases h
  | ask f a b c, n, ⟨h1, h2, h3, h4, h5⟩, z, h => by
    simp only [fields, List.mem_append, List.mem_singleton] at h
    rcases h with ((h | h) | h) | h
    · subst h; exact ⟨h1, h2⟩
    · exact below_mem h3 z h
    · exact below_mem h4 z h
    · exact below_mem h5 z h
theorem Below.mono : ∀ {t : Tr} {n m : Int}, t.Below n → n ≤ m → t.Below m
  | leaf _, _, _, _, _ => trivial
  | ask f a b c, n, m, ⟨h1, h2, h3, h4, h5⟩, h => ⟨h1, by omega, h3.mono h, h4.mono h, h5.mono h⟩
def clash (w : Str) : Tr → Tr
  | leaf s => leaf (if s = w then "clash" else s)
  | ask f a b c => ask f (a.clash w) (b.clash w) (c.clash w)
theorem clash_depth (w : Str) : ∀ t : Tr, (t.clash w).depth = t.depth
  | leaf s => rfl
  | ask f a b c => by simp only [clash, depth, clash_depth w a, clash_depth w b, clash_depth w c]
theorem clash_asks (w : Str) : ∀ t : Tr, (t.clash w).asks = t.asks
  | leaf s => rfl
  | ask f a b c => by simp only [clash, asks, clash_asks w a, clash_asks w b, clash_asks w c]
theorem clash_below (w : Str) {n : Int} : ∀ {t : Tr}, t.Below n → (t.clash w).Below n
  | leaf s, _ => trivial
  | ask f a b c, ⟨h1, h2, h3, h4, h5⟩ => ⟨h1, h2, clash_below w h3, clash_below w h4, clash_below w h5⟩
/-- of a list of trees -/
def endsL : List Tr → List Str
  | [] => []
  | t :: ts => t.ends ++ endsL ts
def fieldsL : List Tr → List Int
  | [] => []
  | t :: ts => t.fields ++ fieldsL ts
def nodesL : List Tr → Nat
  | [] => 0
  | t :: ts => 3 * t.asks + 1 + nodesL ts
theorem fieldsL_app : ∀ a b : List Tr, fieldsL (a ++ b) = fieldsL a ++ fieldsL b
  | [], b => rfl
  | t :: a, b => by rw [List.cons_append, fieldsL, fieldsL, fieldsL_app a b, List.append_assoc]
theorem nodesL_app : ∀ a b : List Tr, nodesL (a ++ b) = nodesL a + nodesL b
  | [], b => by rw [List.nil_append, nodesL, Nat.zero_add]
  | t :: a, b => by rw [List.cons_append, nodesL, nodesL, nodesL_app a b]; omega
theorem nodesL_len : ∀ a : List Tr, a.length ≤ nodesL a
  | [] => Nat.le_refl _
  | t :: a => by have := nodesL_len a; simp only [List.length_cons, nodesL]; omega
end Tr
theorem asc_nodup {l : List Int} (h : l.Pairwise (· < ·)) : l.Nodup := h.imp fun h => by omega
/-- ascending lists with the same members are one -/
theorem asc_same : ∀ {a b : List Int}, a.Pairwise (· < ·) → b.Pairwise (· < ·) → (∀ k, k ∈ a ↔ k ∈ b) → a = b
  | [], [], _, _, _ => rfl
  | [], y :: b, _, _, m => by have := (m y).mpr (List.mem_cons_self ..); cases this
  | x :: a, [], _, _, m => by have := (m x).mp (List.mem_cons_self ..); cases this
  | x :: a, y :: b, ha, hb, m => by
    obtain ⟨h1, h2⟩ := List.pairwise_cons.mp ha
    obtain ⟨k1, k2⟩ := List.pairwise_cons.mp hb
    have e : x = y := by
      rcases List.mem_cons.mp ((m x).mp (List.mem_cons_self ..)) with z | z
      · exact z
      · rcases List.mem_cons.mp ((m y).mpr (List.mem_cons_self ..)) with u | u
        · exact u.symm
        · have := h1 y u; have := k1 x z; omega
    subst e
    rw [asc_same h2 k2 fun k => ?_]
    constructor
    · intro z
      rcases List.mem_cons.mp ((m k).mp (List.mem_cons_of_mem _ z)) with u | u
      · have := h1 k z; omega
      · exact u
    · intro z
      rcases List.mem_cons.mp ((m k).mpr (List.mem_cons_of_mem _ z)) with u | u
      · have := k1 k z; omega
      · exact u
theorem le_nodup_lt : ∀ {l : List Int}, l.Pairwise (· ≤ ·) → l.Nodup → l.Pairwise (· < ·)
  | [], _, _ => .nil
  | x :: l, h, n => by
    obtain ⟨h1, h2⟩ := List.pairwise_cons.mp h
    obtain ⟨n1, n2⟩ := List.nodup_cons.mp n
    refine List.pairwise_cons.mpr ⟨fun y hy => ?_, le_nodup_lt h2 n2⟩
    have a := h1 y hy
    have b : x ≠ y := fun e => n1 (e ▸ hy)
    omega
/-! ### how a tree lies -/
inductive TreeAt (H : Hp) : V → Tr → Prop where
  | leaf (s : Str) : TreeAt H (.str s) (.leaf s)
  | ask {p : Addr} {f : Int} {va vb vc : V} {a b c : Tr} (h : H p = some (.tup [.int f, va, vb, vc])) (ha : TreeAt H va a) (hb : TreeAt H vb b) (hc : TreeAt H vc c) : TreeAt H (.ref p) (.ask f a b c)
theorem TreeAt.keep {H H' : Hp} {v : V} {t : Tr} (k : ∀ p xs, H p = some (.tup xs) → H' p = some (.tup xs)) (h : TreeAt H v t) : TreeAt H' v t := by
  induction h with
  | leaf s => exact .leaf s
  | ask h _ _ _ i1 i2 i3 => exact .ask (k _ _ h) i1 i2 i3
theorem TreeAt.same {H H' : Hp} {v : V} {t : Tr} (h : TreeAt H v t) (e : Same H H') : TreeAt H' v t := h.keep fun p xs q => e p _ q
theorem TreeAt.but {H H' : Hp} {v : V} {t : Tr} {a : Addr} {l : List V} (h : TreeAt H v t) (b : But a H H') (ha : H a = some (.lst l)) : TreeAt H' v t := h.keep fun p xs q => b.tup ha q
/-- a tree that is an ask is a tuple -/
theorem TreeAt.inv {H : Hp} {v : V} {f : Int} {a b c : Tr} (h : TreeAt H v (.ask f a b c)) : ∃ p va vb vc, v = .ref p ∧ H p = some (.tup [.int f, va, vb, vc]) ∧ TreeAt H va a ∧ TreeAt H vb b ∧ TreeAt H vc c := by
  cases h with
  | ask h ha hb hc => exact ⟨_, _, _, _, rfl, h, ha, hb, hc⟩
theorem TreeAt.invL {H : Hp} {v : V} {s : Str} (h : TreeAt H v (.leaf s)) : v = .str s := by
  cases h; rfl
theorem TreeAt.tape {H H' : Hp} {v : V} {x : Tr} {t : Addr} (h : TreeAt H v x) (b : But t H H') (ha : Tape H t) : TreeAt H' v x := by
  obtain ⟨l, q⟩ := ha.lst
  exact h.but b q
theorem atI_0 (a b c d : V) : atI [a, b, c, d] 0 = some a := rfl
theorem atI_1 (a b c d : V) : atI [a, b, c, d] 1 = some b := rfl
theorem atI_2 (a b c d : V) : atI [a, b, c, d] 2 = some c := rfl
theorem atI_3 (a b c d : V) : atI [a, b, c, d] 3 = some d := rfl
theorem sgn_at {rs : List Int} {f : Int} (h0 : 0 ≤ f) (h1 : f < (rs.length : Int)) : atI (rs.map V.int) f = some (.int (Tr.sgn rs f)) := by
  have e : f = ((f.toNat : Nat) : Int) := by omega
  have hk : f.toNat < rs.length := by omega
  have q : atI (rs.map V.int) ((f.toNat : Nat) : Int) = some (.int (rs.getD f.toNat 0)) := atI_nat (by rw [List.getElem?_map, List.getElem?_eq_getElem hk, List.getD_eq_getElem?_getD, List.getElem?_eq_getElem hk]; rfl)
  rw [← e] at q
  exact q
theorem sgn_in {rs : List Int} {f : Int} (h0 : 0 ≤ f) (h1 : f < (rs.length : Int)) : Tr.sgn rs f ∈ rs := by
  have hk : f.toNat < rs.length := by omega
  unfold Tr.sgn
  rw [List.getD_eq_getElem?_getD, List.getElem?_eq_getElem hk]
  exact List.getElem_mem hk
/-- a list of trees -/
abbrev TreesAt (H : Hp) : List V → List Tr → Prop := Paired (TreeAt H)
theorem TreesAt.keep {H H' : Hp} {vs : List V} {ts : List Tr} (k : ∀ p xs, H p = some (.tup xs) → H' p = some (.tup xs)) (h : TreesAt H vs ts) : TreesAt H' vs ts := Paired.mapP h fun _ _ q => q.keep k

theorem upd_tup {H : Hp} {a p : Addr} {l : List V} {o : HO} {xs : List V} (h : H a = some (.lst l)) (e : H p = some (.tup xs)) : upd H a o p = some (.tup xs) := by
  rw [upd_ne (ne_of e h (by intro z; cases z))]; exact e
theorem new_tup {H : Hp} {a p : Addr} {o : HO} {xs : List V} (h : H a = none) (e : H p = some (.tup xs)) : upd H a o p = some (.tup xs) := by
  rw [upd_ne (ne_of_none e h)]; exact e
theorem inV_int (k : Int) (l : List Int) : inV (.int k) (l.map V.int) = decide (k ∈ l) := by
  unfold inV
  rw [List.any_map]
  induction l with
  | nil => rfl
  | cons a l ih =>
    rw [List.any_cons, ih]
    simp only [Function.comp, eqV, List.mem_cons]
    by_cases e : a = k
    · subst e; simp
    · have e2 : ¬ k = a := fun z => e z.symm
      simp [e, e2]
theorem flat_ints (l : List Int) : (l.map V.int).all flatV = true := by
  rw [List.all_map]; exact List.all_eq_true.mpr fun _ _ => rfl
theorem dpInts {K : PySem.W.Frag} {H : Hp} : ∀ l : List Int, DpAll K H (l.map V.int) (l.map PyData.int)
  | [] => .nil
  | x :: l => .cons (.int x) (dpInts l)
theorem canInts : ∀ l : List Int, (PyData.list (l.map PyData.int)).canLay0 = true := fun l => by
  have : ∀ l : List Int, PyData.canLayAll0 (l.map PyData.int) = true := fun l => by
    induction l with
    | nil => rfl
    | cons x l ih => simp only [List.map_cons, PyData.canLayAll0, PyData.canLay0, Bool.true_and]; exact ih
  simp only [PyData.canLay0]
  exact this l
theorem depthInts : ∀ l : List Int, (PyData.list (l.map PyData.int)).depth ≤ 64 := fun l => by
  have : ∀ l : List Int, PyData.depthAll (l.map PyData.int) ≤ 1 := fun l => by
    induction l with
    | nil => simp [PyData.depthAll]
    | cons x l ih => simp only [List.map_cons, PyData.depthAll, PyData.depth]; omega
  have := this l
  simp only [PyData.depth]
  omega
theorem shapedInts (l : List Int) : SeqAt.shaped (PyData.list (l.map PyData.int)) = true := by
  unfold SeqAt.shaped
  rw [canInts l, decide_eq_true (depthInts l)]
  rfl
end My

set_option Elab.async false
set_option linter.all false
set_option maxRecDepth 100000
/-! My least trees: trees by functions of signs, the least tree by an order of fields, and that it is one for one function. -/
namespace My
open PySem PySem.Spec PyProof.Rows L2
namespace Tr
/-- by a function of signs -/
def fol (σ : Int → Int) : Tr → Str
  | leaf s => s
  | ask f a b c => if σ f = -1 then a.fol σ else if σ f = 0 then b.fol σ else c.fol σ
theorem follow_fol (rs : List Int) : ∀ t : Tr, t.follow rs = t.fol (sgn rs)
  | leaf s => rfl
  | ask f a b c => by simp only [follow, fol, follow_fol rs a, follow_fol rs b, follow_fol rs c]
/-- without asks of g, as if its sign were m -/
def fixed (g m : Int) : Tr → Tr
  | leaf s => leaf s
  | ask f a b c => if f = g then (if m = -1 then a.fixed g m else if m = 0 then b.fixed g m else c.fixed g m) else ask f (a.fixed g m) (b.fixed g m) (c.fixed g m)
def upS (σ : Int → Int) (g m : Int) : Int → Int := fun x => if x = g then m else σ x
theorem fixed_fol (σ : Int → Int) (g m : Int) : ∀ t : Tr, (t.fixed g m).fol σ = t.fol (upS σ g m)
  | leaf s => rfl
  | ask f a b c => by
    have h1 := fixed_fol σ g m a; have h2 := fixed_fol σ g m b; have h3 := fixed_fol σ g m c
    unfold fixed
    by_cases e : f = g
    · rw [if_pos e]
      simp only [fol, upS, if_pos e]
      by_cases e1 : m = -1
      · rw [if_pos e1, if_pos e1]; exact h1
      · rw [if_neg e1, if_neg e1]
        by_cases e2 : m = 0
        · rw [if_pos e2, if_pos e2]; exact h2
        · rw [if_neg e2, if_neg e2]; exact h3
    · rw [if_neg e]
      simp only [fol, h1, h2, h3]
      rw [show upS σ g m f = σ f from if_neg e]
theorem fixed_fields (g m : Int) : ∀ t : Tr, ∀ z ∈ (t.fixed g m).fields, z ∈ t.fields ∧ z ≠ g
  | leaf s, z, h => by cases h
  | ask f a b c, z, h => by
    have h1 := fixed_fields g m a z; have h2 := fixed_fields g m b z; have h3 := fixed_fields g m c z
    unfold fixed at h
    simp only [fields, List.mem_append, List.mem_singleton]
    by_cases e : f = g
    · rw [if_pos e] at h
      by_cases e1 : m = -1
      · rw [if_pos e1] at h; exact ⟨.inl (.inl (.inr (h1 h).1)), (h1 h).2⟩
      · rw [if_neg e1] at h
        by_cases e2 : m = 0
        · rw [if_pos e2] at h; exact ⟨.inl (.inr (h2 h).1), (h2 h).2⟩
        · rw [if_neg e2] at h; exact ⟨.inr (h3 h).1, (h3 h).2⟩
    · rw [if_neg e] at h
      simp only [fields, List.mem_append, List.mem_singleton] at h
      rcases h with ((h | h) | h) | h
      · subst h; exact ⟨.inl (.inl (.inl rfl)), e⟩
      · exact ⟨.inl (.inl (.inr (h1 h).1)), (h1 h).2⟩
      · exact ⟨.inl (.inr (h2 h).1), (h2 h).2⟩
      · exact ⟨.inr (h3 h).1, (h3 h).2⟩
theorem fixed_depth (g m : Int) : ∀ t : Tr, (t.fixed g m).depth ≤ t.depth
  | leaf s => Nat.le_refl _
  | ask f a b c => by
    have h1 := fixed_depth g m a; have h2 := fixed_depth g m b; have h3 := fixed_depth g m c
    unfold fixed
    split
    · split
      · simp only [depth]; omega
      · split <;> (simp only [depth]; omega)
    · simp only [depth]; omega
theorem fixed_two (g m : Int) : ∀ t : Tr, t.Two → (t.fixed g m).Two
  | leaf s, h => h
  | ask f a b c, ⟨h1, h2, h3⟩ => by
    have k1 := fixed_two g m a h1; have k2 := fixed_two g m b h2; have k3 := fixed_two g m c h3
    unfold fixed
    split
    · split
      · exact k1
      · split
        · exact k2
        · exact k3
    · exact ⟨k1, k2, k3⟩
theorem fixed_none (g m : Int) : ∀ t : Tr, g ∉ t.fields → t.fixed g m = t
  | leaf s, _ => rfl
  | ask f a b c, h => by
    simp only [fields, List.mem_append, List.mem_singleton, not_or] at h
    obtain ⟨⟨⟨h0, h1⟩, h2⟩, h3⟩ := h
    unfold fixed
    rw [if_neg (fun e => h0 e.symm), fixed_none g m a h1, fixed_none g m b h2, fixed_none g m c h3]
/-- how the branches of an ask come together -/
def join (f g : Int) (a b c : Tr) : Tr := if g = f then (if a = c then a else ask g a (leaf "older") c) else if a = b ∧ b = c then a else ask g a b c
/-- the least tree by an order of fields -/
def lio (f : Int) : List Int → Tr → Tr
  | [], t => t
  | g :: r, t => join f g (lio f r (t.fixed g (-1))) (lio f r (t.fixed g 0)) (lio f r (t.fixed g 1))
theorem join_same (f g : Int) (a : Tr) : join f g a a a = a := by
  unfold join
  split
  · rw [if_pos rfl]
  · rw [if_pos ⟨rfl, rfl⟩]
theorem lio_leaf (f : Int) (s : Str) : ∀ o : List Int, lio f o (leaf s) = leaf s
  | [] => rfl
  | g :: r => by
    show join f g (lio f r (leaf s)) (lio f r (leaf s)) (lio f r (leaf s)) = leaf s
    rw [lio_leaf f s r, join_same]
/-- a field that is not asked makes no difference -/
theorem lio_filter (f : Int) (p : Int → Bool) : ∀ (o : List Int) (t : Tr), (∀ z ∈ t.fields, p z = true) → lio f (o.filter p) t = lio f o t
  | [], t, _ => rfl
  | g :: r, t, h => by
    have q : ∀ m, lio f (r.filter p) (t.fixed g m) = lio f r (t.fixed g m) := fun m => lio_filter f p r _ fun z hz => h z (fixed_fields g m t z hz).1
    by_cases e : p g = true
    · rw [List.filter_cons_of_pos e]
      show join f g _ _ _ = join f g _ _ _
      rw [q, q, q]
    · rw [List.filter_cons_of_neg e]
      have ng : g ∉ t.fields := fun z => e (h g z)
      show _ = join f g (lio f r (t.fixed g (-1))) (lio f r (t.fixed g 0)) (lio f r (t.fixed g 1))
      rw [fixed_none g _ t ng, fixed_none g _ t ng, fixed_none g _ t ng, join_same]
      exact lio_filter f p r t h
def Sg (σ : Int → Int) : Prop := ∀ z, σ z = -1 ∨ σ z = 0 ∨ σ z = 1
theorem fol_eq {σ τ : Int → Int} : ∀ {t : Tr}, (∀ z ∈ t.fields, σ z = τ z) → t.fol σ = t.fol τ
  | leaf s, _ => rfl
  | ask f a b c, h => by
    simp only [fields, List.mem_append, List.mem_singleton] at h
    simp only [fol, h f (.inl (.inl (.inl rfl))), fol_eq fun z hz => h z (.inl (.inl (.inr hz))), fol_eq fun z hz => h z (.inl (.inr hz)), fol_eq fun z hz => h z (.inr hz)]
theorem upS_self {σ : Int → Int} {g m : Int} (h : σ g = m) : upS σ g m = σ := by
  funext x
  unfold upS
  split
  · rename_i e; rw [e]; exact h.symm
  · rfl
theorem lio_sound (f : Int) : ∀ (o : List Int) (t : Tr) (σ : Int → Int), Sg σ → (f ∈ o → σ f ≠ 0) → (lio f o t).fol σ = t.fol σ
  | [], t, σ, _, _ => rfl
  | g :: r, t, σ, hs, hf => by
    have q : ∀ m, σ g = m → (lio f r (t.fixed g m)).fol σ = t.fol σ := fun m e => by
      rw [lio_sound f r _ σ hs fun z => hf (List.mem_cons_of_mem _ z), fixed_fol, upS_self e]
    show (join f g _ _ _).fol σ = _
    unfold join
    by_cases e : g = f
    · rw [if_pos e]
      have h0 : σ g ≠ 0 := by rw [e]; exact hf (by rw [e]; exact List.mem_cons_self ..)
      split
      · rename_i e2
        rcases hs g with z | z | z
        · exact q _ z
        · exact absurd z h0
        · rw [e2]; exact q _ z
      · simp only [fol]
        rcases hs g with z | z | z
        · rw [if_pos z]; exact q _ z
        · exact absurd z h0
        · rw [if_neg (by omega), if_neg (by omega)]; exact q _ z
    · rw [if_neg e]
      split
      · rename_i e2
        rcases hs g with z | z | z
        · exact q _ z
        · rw [e2.1]; exact q _ z
        · rw [e2.1, e2.2]; exact q _ z
      · simp only [fol]
        rcases hs g with z | z | z
        · rw [if_pos z]; exact q _ z
        · rw [if_neg (by omega), if_pos z]; exact q _ z
        · rw [if_neg (by omega), if_neg (by omega)]; exact q _ z
/-- one tree for one function -/
theorem lio_canon (f : Int) : ∀ (o : List Int) (t u : Tr), o.Nodup → (∀ z ∈ t.fields, z ∈ o) → (∀ z ∈ u.fields, z ∈ o) → (∀ σ, Sg σ → (f ∈ o → σ f ≠ 0) → t.fol σ = u.fol σ) → lio f o t = lio f o u
  | [], leaf s, leaf s', _, _, _, h => by
    have := h (fun _ => 1) (fun _ => .inr (.inr rfl)) (fun _ => by decide)
    show leaf s = leaf s'
    rw [show s = s' from this]
  | [], ask g a b c, _, _, h, _, _ => by
    have := h g (by simp [fields])
    cases this
  | [], leaf s, ask g a b c, _, _, h, _ => by
    have := h g (by simp [fields])
    cases this
  | g :: r, t, u, nd, ht, hu, h => by
    obtain ⟨n1, n2⟩ := List.nodup_cons.mp nd
    have q : ∀ m, (m = -1 ∨ m = 0 ∨ m = 1) → (g = f → m ≠ 0) → lio f r (t.fixed g m) = lio f r (u.fixed g m) := fun m hm hz => by
      refine lio_canon f r _ _ n2 (fun z hz => ?_) (fun z hz => ?_) fun σ hs hf => ?_
      · obtain ⟨a, b⟩ := fixed_fields g m t z hz
        exact (List.mem_cons.mp (ht z a)).resolve_left b
      · obtain ⟨a, b⟩ := fixed_fields g m u z hz
        exact (List.mem_cons.mp (hu z a)).resolve_left b
      · rw [fixed_fol, fixed_fol]
        refine h _ (fun z => ?_) fun hf2 => ?_
        · unfold upS; split
          · exact hm
          · exact hs z
        · unfold upS
          split
          · rename_i e; exact hz e.symm
          · rename_i e; exact hf ((List.mem_cons.mp hf2).resolve_left e)
    show join f g _ _ _ = join f g _ _ _
    by_cases e : g = f
    · unfold join
      rw [if_pos e, if_pos e, q (-1) (.inl rfl) (fun _ => by decide), q 1 (.inr (.inr rfl)) (fun _ => by decide)]
    · rw [q (-1) (.inl rfl) (fun z => absurd z e), q 0 (.inr (.inl rfl)) (fun z => absurd z e), q 1 (.inr (.inr rfl)) (fun z => absurd z e)]
theorem join_fields (f g : Int) (a b c : Tr) : ∀ z ∈ (join f g a b c).fields, z = g ∨ z ∈ a.fields ∨ z ∈ b.fields ∨ z ∈ c.fields := fun z h => by
  unfold join at h
  split at h
  · split at h
    · exact .inr (.inl h)
    · simp only [fields, List.mem_append, List.mem_singleton, List.not_mem_nil, or_false] at h
      rcases h with (h | h) | h
      · exact .inl h
      · exact .inr (.inl h)
      · exact .inr (.inr (.inr h))
  · split at h
    · exact .inr (.inl h)
    · simp only [fields, List.mem_append, List.mem_singleton] at h
      rcases h with ((h | h) | h) | h
      · exact .inl h
      · exact .inr (.inl h)
      · exact .inr (.inr (.inl h))
      · exact .inr (.inr (.inr h))
theorem lio_fields (f : Int) : ∀ (o : List Int) (t : Tr), (∀ z ∈ t.fields, z ∈ o) → ∀ z ∈ (lio f o t).fields, z ∈ t.fields
  | [], t, _, z, h => h
  | g :: r, t, ht, z, h => by
    have q : ∀ m, z ∈ (lio f r (t.fixed g m)).fields → z ∈ t.fields := fun m hz => (fixed_fields g m t z (lio_fields f r _ (fun y hy => (List.mem_cons.mp (ht y (fixed_fields g m t y hy).1)).resolve_left (fixed_fields g m t y hy).2) z hz)).1
    by_cases ng : g ∈ t.fields
    · rcases join_fields f g _ _ _ z h with h | h | h | h
      · rw [h]; exact ng
      · exact q _ h
      · exact q _ h
      · exact q _ h
    · have e : lio f (g :: r) t = lio f r t := by
        show join f g (lio f r (t.fixed g (-1))) (lio f r (t.fixed g 0)) (lio f r (t.fixed g 1)) = _
        rw [fixed_none g _ t ng, fixed_none g _ t ng, fixed_none g _ t ng, join_same]
      rw [e] at h
      exact lio_fields f r t (fun y hy => (List.mem_cons.mp (ht y hy)).resolve_left fun e => ng (e ▸ hy)) z h
theorem join_depth (f g : Int) (a b c : Tr) (n : Nat) (ha : a.depth ≤ n) (hb : b.depth ≤ n) (hc : c.depth ≤ n) : (join f g a b c).depth ≤ n + 1 := by
  unfold join
  split
  · split
    · omega
    · simp only [depth]; omega
  · split
    · omega
    · simp only [depth]; omega
theorem lio_depth (f : Int) : ∀ (o : List Int) (t : Tr), (∀ z ∈ t.fields, z ∈ o) → (lio f o t).depth ≤ o.length
  | [], leaf s, _ => Nat.le_refl _
  | [], ask g a b c, h => by have := h g (by simp [fields]); cases this
  | g :: r, t, ht => by
    have q : ∀ m, (lio f r (t.fixed g m)).depth ≤ r.length := fun m => lio_depth f r _ fun y hy => (List.mem_cons.mp (ht y (fixed_fields g m t y hy).1)).resolve_left (fixed_fields g m t y hy).2
    exact join_depth f g _ _ _ _ (q _) (q _) (q _)
theorem join_two (f g : Int) {a b c : Tr} (ha : a.Two) (hb : b.Two) (hc : c.Two) : (join f g a b c).Two := by
  unfold join
  split
  · split
    · exact ha
    · exact ⟨ha, .inl rfl, hc⟩
  · split
    · exact ha
    · exact ⟨ha, hb, hc⟩
theorem lio_two (f : Int) : ∀ (o : List Int) (t : Tr), t.Two → (lio f o t).Two
  | [], t, h => h
  | g :: r, t, h => join_two f g (lio_two f r _ (fixed_two g _ t h)) (lio_two f r _ (fixed_two g _ t h)) (lio_two f r _ (fixed_two g _ t h))
/-- the form of a least tree -/
inductive IsL (f : Int) : List Int → Tr → Prop where
  | leaf {o : List Int} {s : Str} (h : s = "older" ∨ s = "newer") : IsL f o (leaf s)
  | ask {o pre r : List Int} {g : Int} {a b c : Tr} (e : o = pre ++ g :: r) (ha : IsL f r a) (hb : IsL f r b) (hc : IsL f r c) (h1 : g = f → b = Tr.leaf "older" ∧ a ≠ c) (h2 : g ≠ f → a ≠ b ∨ b ≠ c) : IsL f o (ask g a b c)
theorem IsL.more {f : Int} {o : List Int} {t : Tr} (g : Int) (h : IsL f o t) : IsL f (g :: o) t := by
  cases h with
  | leaf h => exact .leaf h
  | ask e ha hb hc h1 h2 => exact .ask (pre := g :: _) (by rw [e]; rfl) ha hb hc h1 h2
theorem lio_isL (f : Int) : ∀ (o : List Int) (t : Tr), t.Two → (∀ z ∈ t.fields, z ∈ o) → IsL f o (lio f o t)
  | [], leaf s, h, _ => .leaf h
  | [], ask g a b c, _, h => by have := h g (by simp [fields]); cases this
  | g :: r, t, h, ht => by
    have q : ∀ m, IsL f r (lio f r (t.fixed g m)) := fun m => lio_isL f r _ (fixed_two g m t h) fun y hy => (List.mem_cons.mp (ht y (fixed_fields g m t y hy).1)).resolve_left (fixed_fields g m t y hy).2
    show IsL f (g :: r) (join f g _ _ _)
    unfold join
    split
    · rename_i e
      split
      · exact (q _).more g
      · rename_i e2
        exact .ask (pre := []) rfl (q _) (.leaf (.inl rfl)) (q _) (fun _ => ⟨rfl, e2⟩) (fun z => absurd e z)
    · rename_i e
      split
      · exact (q _).more g
      · rename_i e2
        refine .ask (pre := []) rfl (q _) (q _) (q _) (fun z => absurd z e) fun _ => ?_
        by_cases z : lio f r (t.fixed g (-1)) = lio f r (t.fixed g 0)
        · exact .inr fun y => e2 ⟨z, y⟩
        · exact .inl z
theorem asks_depth : ∀ t : Tr, 2 * t.asks + 1 ≤ 3 ^ t.depth
  | leaf s => Nat.le_refl _
  | ask f a b c => by
    have h1 := asks_depth a; have h2 := asks_depth b; have h3 := asks_depth c
    simp only [asks, depth]
    have p1 : 3 ^ a.depth ≤ 3 ^ (max a.depth (max b.depth c.depth)) := Nat.pow_le_pow_right (by decide) (by omega)
    have p2 : 3 ^ b.depth ≤ 3 ^ (max a.depth (max b.depth c.depth)) := Nat.pow_le_pow_right (by decide) (by omega)
    have p3 : 3 ^ c.depth ≤ 3 ^ (max a.depth (max b.depth c.depth)) := Nat.pow_le_pow_right (by decide) (by omega)
    rw [Nat.pow_succ]
    omega
theorem asks_small {t : Tr} (h : t.depth ≤ 6) : t.asks ≤ 364 := by
  have h1 := asks_depth t
  have h2 : 3 ^ t.depth ≤ 3 ^ 6 := Nat.pow_le_pow_right (by decide) h
  have h3 : 3 ^ 6 = 729 := by decide
  omega
/-! ### as data -/
def py : Tr → PyData
  | leaf s => .str s
  | ask f a b c => .tuple [.int f, a.py, b.py, c.py]
theorem py_eqv : ∀ t u : Tr, PyData.eqv t.py u.py = decide (t = u)
  | leaf s, leaf s' => by
    simp only [py, PyData.eqv]
    by_cases e : s = s'
    · subst e; simp
    · simp [e]
  | leaf s, ask g a b c => by simp [py, PyData.eqv]
  | ask g a b c, leaf s => by simp [py, PyData.eqv]
  | ask f a b c, ask f' a' b' c' => by
    simp only [py, PyData.eqv, PyData.eqvAll, py_eqv a a', py_eqv b b', py_eqv c c']
    by_cases e : Tr.ask f a b c = Tr.ask f' a' b' c'
    · injection e with e0 e1 e2 e3
      subst e0; subst e1; subst e2; subst e3
      simp
    · have : ¬ (f = f' ∧ a = a' ∧ b = b' ∧ c = c') := fun ⟨h0, h1, h2, h3⟩ => e (by rw [h0, h1, h2, h3])
      rw [decide_eq_false e]
      by_cases h0 : f = f'
      · by_cases h1 : a = a'
        · by_cases h2 : b = b'
          · by_cases h3 : c = c'
            · exact absurd ⟨h0, h1, h2, h3⟩ this
            · simp [h3]
          · simp [h2]
        · simp [h1]
      · simp [h0]
theorem py_can : ∀ t : Tr, t.Two → t.py.canLay0 = true
  | leaf s, h => by
    rcases h with h | h <;> subst h <;> decide +kernel
  | ask f a b c, ⟨h1, h2, h3⟩ => by
    simp only [py, PyData.canLay0, PyData.canLayAll0, py_can a h1, py_can b h2, py_can c h3, Bool.and_self]
theorem py_depth : ∀ t : Tr, t.py.depth ≤ t.depth + 1
  | leaf s => by simp [py, PyData.depth]
  | ask f a b c => by
    have h1 := py_depth a; have h2 := py_depth b; have h3 := py_depth c
    simp only [py, PyData.depth, PyData.depthAll, depth]
    omega
theorem py_shaped {t : Tr} (h : t.Two) (hd : t.depth ≤ 60) : SeqAt.shaped t.py = true := by
  have := py_depth t
  unfold SeqAt.shaped
  rw [py_can t h, decide_eq_true (show t.py.depth ≤ 64 by omega)]
  rfl
end Tr
theorem TreeAt.dp {K : PySem.W.Frag} {H : Hp} {v : V} {t : Tr} (h : TreeAt H v t) : Dp K H v t.py := by
  induction h with
  | leaf s => exact .str s
  | ask h _ _ _ i1 i2 i3 => exact .tup (SqT.of h) (.cons (.int _) (.cons i1 (.cons i2 (.cons i3 .nil))))
theorem atI_hd (x : V) (xs : List V) : atI (x :: xs) 0 = some x := atI_nat (j := 0) rfl
/-- all rows of n signs -/
def allRows : Nat → List (List Int)
  | 0 => [[]]
  | n + 1 => (allRows n).flatMap fun r => [r ++ [-1], r ++ [0], r ++ [1]]
theorem mem_allRows : ∀ (n : Nat) (rs : List Int), rs ∈ allRows n ↔ rs.length = n ∧ ∀ z ∈ rs, z = -1 ∨ z = 0 ∨ z = 1
  | 0, rs => by
    simp only [allRows, List.mem_singleton]
    constructor
    · rintro rfl; exact ⟨rfl, fun _ h => nomatch h⟩
    · rintro ⟨h, _⟩; exact List.length_eq_zero_iff.mp h
  | n + 1, rs => by
    simp only [allRows, List.mem_flatMap, List.mem_cons, List.not_mem_nil, or_false]
    constructor
    · rintro ⟨r, hr, h⟩
      obtain ⟨h1, h2⟩ := (mem_allRows n r).mp hr
      have : ∃ s : Int, (s = -1 ∨ s = 0 ∨ s = 1) ∧ rs = r ++ [s] := by
        rcases h with h | h | h
        · exact ⟨_, .inl rfl, h⟩
        · exact ⟨_, .inr (.inl rfl), h⟩
        · exact ⟨_, .inr (.inr rfl), h⟩
      obtain ⟨s, hs, rfl⟩ := this
      refine ⟨by rw [List.length_append, h1]; rfl, fun z hz => ?_⟩
      rcases List.mem_append.mp hz with hz | hz
      · exact h2 z hz
      · rw [List.mem_singleton] at hz; subst hz; exact hs
    · rintro ⟨h1, h2⟩
      have ne : rs ≠ [] := fun e => by subst e; cases h1
      refine ⟨rs.dropLast, (mem_allRows n _).mpr ⟨by rw [List.length_dropLast, h1]; rfl, fun z hz => h2 z (List.dropLast_subset _ hz)⟩, ?_⟩
      have e := List.dropLast_concat_getLast ne
      have hl := h2 _ (List.getLast_mem ne)
      rcases hl with z | z | z
      · rw [z] at e; exact .inl e.symm
      · rw [z] at e; exact .inr (.inl e.symm)
      · rw [z] at e; exact .inr (.inr e.symm)
/-- functions of signs as rows -/
theorem row_of_sg {σ : Int → Int} (hs : Tr.Sg σ) (n : Nat) : ∃ rs ∈ allRows n, ∀ z : Int, 0 ≤ z → z < (n : Int) → Tr.sgn rs z = σ z := by
  refine ⟨(List.range n).map fun (k : Nat) => σ ((k : Nat) : Int), (mem_allRows n _).mpr ⟨by simp, fun z hz => ?_⟩, fun z h0 h1 => ?_⟩
  · obtain ⟨k, _, rfl⟩ := List.mem_map.mp hz
    exact hs _
  · unfold Tr.sgn
    have hk : z.toNat < n := by omega
    rw [List.getD_eq_getElem?_getD, List.getElem?_map, List.getElem?_range hk]
    show σ ((z.toNat : Nat) : Int) = σ z
    rw [show ((z.toNat : Nat) : Int) = z by omega]
end My

set_option Elab.async false
set_option linter.all false
set_option maxRecDepth 100000
namespace Law
open PySem PySem.Spec PyProof.Rows L2 My
def topS (i : Nat) : Stmt := PySem.Challenge.pw_fieldrides_k26_whole_needed_fields.main.body.getD i (.Pass ⟨0, 0, 0, 0⟩)

abbrev s_branch : Stmt := topS 1
abbrev N_branch : List Str := ["tree", "mark"]
abbrev P_branch : List Str := ["tree", "mark"]
theorem sc_branch : FnScope N_branch P_branch (defScope s_branch) := ⟨rfl, rfl, rfl, by decide +kernel, rfl, by decide +kernel, by decide +kernel⟩
abbrev s_all_asks : Stmt := topS 2
abbrev N_all_asks : List Str := ["tree"]
abbrev P_all_asks : List Str := ["tree"]
theorem sc_all_asks : FnScope N_all_asks P_all_asks (defScope s_all_asks) := ⟨rfl, rfl, rfl, by decide +kernel, rfl, by decide +kernel, by decide +kernel⟩
abbrev s_asked : Stmt := topS 3
abbrev N_asked : List Str := ["tree"]
abbrev P_asked : List Str := ["tree"]
theorem sc_asked : FnScope N_asked P_asked (defScope s_asked) := ⟨rfl, rfl, rfl, by decide +kernel, rfl, by decide +kernel, by decide +kernel⟩
abbrev s_fixed : Stmt := topS 4
abbrev N_fixed : List Str := ["tree", "field", "mark"]
abbrev P_fixed : List Str := ["tree", "field", "mark"]
theorem sc_fixed : FnScope N_fixed P_fixed (defScope s_fixed) := ⟨rfl, rfl, rfl, by decide +kernel, rfl, by decide +kernel, by decide +kernel⟩
abbrev s_least_in_order : Stmt := topS 5
abbrev N_least_in_order : List Str := ["tree", "field", "order", "asking", "rest", "less", "more", "same"]
abbrev P_least_in_order : List Str := ["tree", "field", "order"]
theorem sc_least_in_order : FnScope N_least_in_order P_least_in_order (defScope s_least_in_order) := ⟨rfl, rfl, rfl, by decide +kernel, rfl, by decide +kernel, by decide +kernel⟩
abbrev s_least_tree : Stmt := topS 6
abbrev N_least_tree : List Str := ["tree", "field", "fields", "found", "others", "other", "place"]
abbrev P_least_tree : List Str := ["tree", "field", "fields"]
theorem sc_least_tree : FnScope N_least_tree P_least_tree (defScope s_least_tree) := ⟨rfl, rfl, rfl, by decide +kernel, rfl, by decide +kernel, by decide +kernel⟩
abbrev s_needed_fields : Stmt := topS 7
abbrev N_needed_fields : List Str := ["tree", "field", "fields"]
abbrev P_needed_fields : List Str := ["tree", "field", "fields"]
theorem sc_needed_fields : FnScope N_needed_fields P_needed_fields (defScope s_needed_fields) := ⟨rfl, rfl, rfl, by decide +kernel, rfl, by decide +kernel, by decide +kernel⟩
abbrev s__law_tape : Stmt := topS 9
abbrev N__law_tape : List Str := ["_law_script", "_law_k"]
abbrev P__law_tape : List Str := ["_law_script", "_law_k"]
theorem sc__law_tape : FnScope N__law_tape P__law_tape (defScope s__law_tape) := ⟨rfl, rfl, rfl, by decide +kernel, rfl, by decide +kernel, by decide +kernel⟩
abbrev s__law_take : Stmt := topS 10
abbrev N__law_take : List Str := ["_law_tape_here", "_law_size", "_law_cell", "_law_k", "_law_mixed"]
abbrev P__law_take : List Str := ["_law_tape_here", "_law_size"]
theorem sc__law_take : FnScope N__law_take P__law_take (defScope s__law_take) := ⟨rfl, rfl, rfl, by decide +kernel, rfl, by decide +kernel, by decide +kernel⟩
abbrev s__law_tree : Stmt := topS 11
abbrev N__law_tree : List Str := ["_law_tape_here", "_law_n", "_law_levels", "_law_field", "_law_less", "_law_same", "_law_more"]
abbrev P__law_tree : List Str := ["_law_tape_here", "_law_n", "_law_levels"]
theorem sc__law_tree : FnScope N__law_tree P__law_tree (defScope s__law_tree) := ⟨rfl, rfl, rfl, by decide +kernel, rfl, by decide +kernel, by decide +kernel⟩
abbrev s__law_padded : Stmt := topS 12
abbrev N__law_padded : List Str := ["_law_tape_here", "_law_tree_here", "_law_field", "_law_known", "_law_levels", "_law_extra", "_law_place", "_law_branches", "_law_s", "_law_fixed"]
abbrev P__law_padded : List Str := ["_law_tape_here", "_law_tree_here", "_law_field", "_law_known", "_law_levels"]
theorem sc__law_padded : FnScope N__law_padded P__law_padded (defScope s__law_padded) := ⟨rfl, rfl, rfl, by decide +kernel, rfl, by decide +kernel, by decide +kernel⟩
abbrev s__law_follow : Stmt := topS 13
abbrev N__law_follow : List Str := ["_law_tree_here", "_law_row", "_law_k"]
abbrev P__law_follow : List Str := ["_law_tree_here", "_law_row"]
theorem sc__law_follow : FnScope N__law_follow P__law_follow (defScope s__law_follow) := ⟨rfl, rfl, rfl, by decide +kernel, rfl, by decide +kernel, by decide +kernel⟩
abbrev s__law_rows : Stmt := topS 14
abbrev N__law_rows : List Str := ["_law_n", "_law_rows_here", "_law_k", "_law_longer", "_law_row", "_law_s"]
abbrev P__law_rows : List Str := ["_law_n"]
theorem sc__law_rows : FnScope N__law_rows P__law_rows (defScope s__law_rows) := ⟨rfl, rfl, rfl, by decide +kernel, rfl, by decide +kernel, by decide +kernel⟩
abbrev s__law_is_integer : Stmt := topS 15
abbrev N__law_is_integer : List Str := ["_law_actual"]
abbrev P__law_is_integer : List Str := ["_law_actual"]
theorem sc__law_is_integer : FnScope N__law_is_integer P__law_is_integer (defScope s__law_is_integer) := ⟨rfl, rfl, rfl, by decide +kernel, rfl, by decide +kernel, by decide +kernel⟩
abbrev s__law_is_ascending : Stmt := topS 16
abbrev N__law_is_ascending : List Str := ["_law_actual", "_law_n", "_law_last", "_law_value"]
abbrev P__law_is_ascending : List Str := ["_law_actual", "_law_n"]
theorem sc__law_is_ascending : FnScope N__law_is_ascending P__law_is_ascending (defScope s__law_is_ascending) := ⟨rfl, rfl, rfl, by decide +kernel, rfl, by decide +kernel, by decide +kernel⟩
abbrev s__law_needed : Stmt := topS 17
abbrev N__law_needed : List Str := ["_law_tree_here", "_law_field", "_law_n", "_law_sides", "_law_row", "_law_rows_here", "_law_needed_here", "_law_g"]
abbrev P__law_needed : List Str := ["_law_tree_here", "_law_field", "_law_n"]
theorem sc__law_needed : FnScope N__law_needed P__law_needed (defScope s__law_needed) := ⟨rfl, rfl, rfl, by decide +kernel, rfl, by decide +kernel, by decide +kernel⟩
abbrev s_law : Stmt := topS 18
abbrev N_law : List Str := ["_law_script", "_law_tape_here", "_law_n", "_law_field", "_law_tree_here", "_law_g", "_law_place", "_law_actual"]
abbrev P_law : List Str := ["_law_script"]
theorem sc_law : FnScope N_law P_law (defScope s_law) := ⟨rfl, rfl, rfl, by decide +kernel, rfl, by decide +kernel, by decide +kernel⟩
structure Bts (mg : Str → Option Value) : Prop where
  abs_ : mg "abs" = none
  bool_ : mg "bool" = none
  int_ : mg "int" = none
  isinstance_ : mg "isinstance" = none
  len_ : mg "len" = none
  list_ : mg "list" = none
  range_ : mg "range" = none
  set_ : mg "set" = none
  sorted_ : mg "sorted" = none
  str_ : mg "str" = none
  tuple_ : mg "tuple" = none
section
variable {P : Program} {w : World} {K : PySem.W.Frag} {mg : Str → Option Value} {base : Heap}
def spBranch : Sp := fun vs H Q _ => ∃ (p : Addr) (m : Int) (xs : List V) (v : V), vs = [.ref p, .int m] ∧ H p = some (.tup xs) ∧ atI xs (m + 2) = some v ∧ Q v H
theorem dn_branch (F : Df K mg "branch" s_branch P_branch) : Dn P w K mg base 1 "branch" spBranch := by
  refine F.ok sc_branch (fun vs H Q E h => ?_) (fun f cdv A outer s H vs Q E hr h => ?_)
  · obtain ⟨p, m, xs, v, rfl, _⟩ := h; rfl
  obtain ⟨p, m, xs, v, rfl, hp, hv, q⟩ := h
  refine ⟨_, (pss_one
        (ps_ret (pe_ix ix_tup (pv 0) (pe_op op_add (pv 1) pe_int) (fun _ _ => rfl)))), ?_⟩
  exact ⟨_, rfl, _, rfl, _, _, rfl, rfl, p, xs, m + 2, v, rfl, rfl, SqT.of hp, hv, q⟩


/-- the list of the asked fields -/
def spAll (n : Nat) : Sp := fun vs H Q _ => ∃ (v : V) (t : Tr), vs = [v] ∧ TreeAt H v t ∧ t.depth < n ∧ t.asks ≤ 1000 ∧
  ∀ (p : Addr) (H' : Hp), Same H H' → H' p = some (.lst (t.fields.map V.int)) → Q (.ref p) H'
theorem dn_all (B : Bts mg) (F : Df K mg "all_asks" s_all_asks P_all_asks) : ∀ n : Nat, Dn P w K mg base n "all_asks" (spAll n)
  | 0 => F.none (fun vs H Q E h => by obtain ⟨v, t, _, _, h, _⟩ := h; omega) 0
  | n + 1 => by
    have D_all_asks := dn_all B F n
    refine F.ok sc_all_asks (fun vs H Q E h => ?_) (fun f cdv A outer s H vs Q E hr h => ?_)
    · obtain ⟨v, t, rfl, _⟩ := h; rfl
    obtain ⟨v, t, rfl, ht, hd, hz, q⟩ := h
    refine ⟨_, (pss_cons
          (ps_if (pt_val (pe_callB call_isi rfl B.isinstance_ boot_isinstance (pa_cons (pv 0) (pa_cons (pe_bltn (v := .ty "str") rfl B.str_ boot_str rfl) pa_nil)))) (pss_one
            (ps_ret (pe_lst pa_nil))) pss_nil)
          (pss_one
          (ps_ret (pe_op op_cat (pe_op op_cat (pe_op op_cat (pe_lst (pa_cons (pe_ix ix_tup (pv 0) pe_int (fun _ _ => rfl)) pa_nil)) (My.pe_callD D_all_asks (hr.mono (by omega)) rfl (pa_cons (pe_ix ix_tup (pv 0) pe_int (fun _ _ => rfl)) pa_nil))) (My.pe_callD D_all_asks (hr.mono (by omega)) rfl (pa_cons (pe_ix ix_tup (pv 0) pe_int (fun _ _ => rfl)) pa_nil))) (My.pe_callD D_all_asks (hr.mono (by omega)) rfl (pa_cons (pe_ix ix_tup (pv 0) pe_int (fun _ _ => rfl)) pa_nil)))))), ?_⟩
    cases t with
    | leaf s =>
      obtain rfl := ht.invL
      refine ⟨_, rfl, _, _, _, _, true, rfl, .ty _, .base (.str _), k_ss, ?_⟩
      refine ⟨_, rfl, ?_⟩
      refine iteT ?_
      refine ⟨small (by decide), fun p hp => ?_⟩
      exact q p _ (same_new hp _) upd_same
    | ask f a b c =>
      obtain ⟨p, va, vb, vc, rfl, hp, ha, hb, hc⟩ := ht.inv
      simp only [Tr.depth] at hd
      simp only [Tr.asks] at hz
      have l1 := a.fields_len; have l2 := b.fields_len; have l3 := c.fields_len
      refine ⟨_, rfl, _, _, _, _, false, rfl, .ty _, .base (.tup hp), k_ts, ?_⟩
      refine ⟨_, rfl, ?_⟩
      refine iteF ?_
      refine ⟨_, rfl, p, _, _, _, rfl, rfl, SqT.of hp, atI_0 _ _ _ _, small (by show 1 ≤ 100000; decide), fun p0 n0 => ?_⟩
      have g0 := same_new n0 (.lst [.int f])
      refine ⟨_, rfl, p, _, _, _, rfl, rfl, SqT.of (g0 _ _ hp), atI_1 _ _ _ _, ?_⟩
      refine ⟨va, a, rfl, ha.same g0, by omega, by omega, fun p1 H1 g1 e1 => ?_⟩
      refine ⟨p0, p1, _, _, rfl, rfl, g1 _ _ upd_same, e1, small (by simp only [List.length_map, List.length_cons, List.length_nil]; omega), fun p2 n2 => ?_⟩
      have g2 := g0.trans (g1.trans (same_new n2 (.lst ([.int f] ++ a.fields.map V.int))))
      refine ⟨_, rfl, p, _, _, _, rfl, rfl, SqT.of (g2 _ _ hp), atI_2 _ _ _ _, ?_⟩
      refine ⟨vb, b, rfl, hb.same g2, by omega, by omega, fun p3 H3 g3 e3 => ?_⟩
      refine ⟨p2, p3, _, _, rfl, rfl, g3 _ _ upd_same, e3, small (by simp only [List.length_map, List.length_append, List.length_cons, List.length_nil]; omega), fun p4 n4 => ?_⟩
      have g4 := g2.trans (g3.trans (same_new n4 (.lst ([.int f] ++ a.fields.map V.int ++ b.fields.map V.int))))
      refine ⟨_, rfl, p, _, _, _, rfl, rfl, SqT.of (g4 _ _ hp), atI_3 _ _ _ _, ?_⟩
      refine ⟨vc, c, rfl, hc.same g4, by omega, by omega, fun p5 H5 g5 e5 => ?_⟩
      refine ⟨p4, p5, _, _, rfl, rfl, g5 _ _ upd_same, e5, small (by simp only [List.length_map, List.length_append, List.length_cons, List.length_nil]; omega), fun p6 n6 => ?_⟩
      refine q p6 _ (g4.trans (g5.trans (same_new n6 _))) ?_
      rw [upd_same]
      simp only [Tr.fields, List.map_append, List.map_cons, List.map_nil]


/-- the ascending tuple of the asked fields -/
def spAsked : Sp := fun vs H Q _ => ∃ (v : V) (t : Tr), vs = [v] ∧ TreeAt H v t ∧ t.depth < 60 ∧ t.asks ≤ 1000 ∧ t.Below 60 ∧
  ∀ (p : Addr) (H' : Hp) (fs : List Int), Same H H' → fs.Pairwise (· < ·) → (∀ k, k ∈ fs ↔ k ∈ t.fields) → H' p = some (.tup (fs.map V.int)) → Q (.ref p) H'
theorem dn_asked (B : Bts mg) (F : Df K mg "asked" s_asked P_asked) (D_all_asks : Dn P w K mg base 60 "all_asks" (spAll 60)) : Dn P w K mg base 61 "asked" spAsked := by
  refine F.ok sc_asked (fun vs H Q E h => ?_) (fun f cdv A outer s H vs Q E hr h => ?_)
  · obtain ⟨v, t, rfl, _⟩ := h; rfl
  obtain ⟨v, t, rfl, ht, hd, hz, hb, q⟩ := h
  refine ⟨_, (pss_one
        (ps_ret (pe_callTy call_tuple_of rfl B.tuple_ boot_tuple (pa_cons (pe_callB (cr_sortedSet rfl) rfl B.sorted_ boot_sorted (pa_cons (pe_callTy (My.call_setI rfl) rfl B.set_ boot_set (pa_cons (My.pe_callD D_all_asks (hr.mono (by omega)) rfl (pa_cons (pv 0) pa_nil)) pa_nil)) pa_nil)) pa_nil)))), ?_⟩
  refine ⟨_, rfl, v, t, rfl, ht, hd, hz, fun p1 H1 g1 e1 => ?_⟩
  have l := t.fields_len
  refine ⟨p1, t.fields, rfl, SqL.of e1, (by show _ < 4096; omega), fun p2 ds nd m n2 => ?_⟩
  have l2 := nodup_small 60 ds nd fun z hz' => Tr.below_mem hb z ((m z).mp hz')
  refine ⟨p2, _, _, rfl, upd_same, by omega, fun ns p3 hs hm hl n3 => ?_⟩
  refine ⟨p3, _, rfl, .inl ⟨SqL.of upd_same, fun p4 n4 => ?_⟩⟩
  refine q p4 _ ns (((g1.trans (same_new n2 _)).trans (same_new n3 _)).trans (same_new n4 _)) hs (fun k => ?_) upd_same
  rw [hm k]
  simp


theorem dn_tape (B : Bts mg) (F : Df K mg "_law_tape" s__law_tape P__law_tape) : Dn P w K mg base 1 "_law_tape" (spTape K) := by
  refine F.ok sc__law_tape (fun vs H Q E h => ?_) (fun f cdv A outer s H vs Q E hr h => ?_)
  · obtain ⟨a, ns, k, rfl, _⟩ := h; rfl
  obtain ⟨a, ns, k, rfl, hS, hk, q⟩ := h
  refine ⟨_, (pss_cons
        (ps_if (pt_cmpR op_lt (pv 1) (pe_callB call_len_seq rfl B.len_ PySem.boot_len (pa_cons (pv 0) pa_nil)) (nomark _)) (pss_one
          (ps_ret (pe_lst (pa_cons (pe_callB call_abs rfl B.abs_ boot_abs (pa_cons (pe_ix ix_list (pv 0) (pv 1) (fun _ _ => rfl)) pa_nil)) (pa_cons pe_int pa_nil))))) pss_nil)
        (pss_one
        (ps_ret (pe_lst (pa_cons (pv 1) (pa_cons pe_int pa_nil)))))), ?_⟩
  refine ⟨_, rfl, _, rfl, a, _, rfl, .inl hS, _, _, rfl, rfl, _, rfl, ?_⟩
  refine ite2 (fun c => ?_) (fun c => ?_)
  · have c' : k < ((ns.map V.int).length : Int) := of_decide_eq_true c
    rw [List.length_map] at c'
    have hk' : k.toNat < ns.length := by omega
    have e : k = ((k.toNat : Nat) : Int) := by omega
    have hat : atI (ns.map V.int) k = some (.int ns[k.toNat]) := by
      have z : atI (ns.map V.int) ((k.toNat : Nat) : Int) = some (.int ns[k.toNat]) := atI_nat (by rw [List.getElem?_map, List.getElem?_eq_getElem hk']; rfl)
      rw [← e] at z
      exact z
    refine ⟨_, rfl, _, rfl, a, _, k, _, rfl, rfl, hS, hat, _, rfl, small (by show 2 ≤ 100000; decide), fun t n => ?_⟩
    exact q t _ n (by split <;> omega)
  · refine ⟨_, rfl, small (by show 2 ≤ 100000; decide), fun t n => ?_⟩
    exact q t _ n hk

theorem dn_take (B : Bts mg) (F : Df K mg "_law_take" s__law_take P__law_take) : Dn P w K mg base 1 "_law_take" spTake := by
  refine F.ok sc__law_take (fun vs H Q E h => ?_) (fun f cdv A outer s H vs Q E hr h => ?_)
  · obtain ⟨t, n, rfl, _⟩ := h; rfl
  obtain ⟨t, n, rfl, ⟨c, k, ht, hc, hk⟩, n0, n1, q⟩ := h
  refine ⟨_, (pss_cons
        (ps_set (i := 2) sc__law_take.nd rfl (.inl rfl) (pe_ix ix_list (pv 0) pe_int (fun _ _ => rfl)))
        (pss_cons
        (ps_asg (pe_op op_add (pe_ix ix_list (pv 0) pe_int (fun _ _ => rfl)) pe_int) (pg_sub (pv 0) pe_int set_list))
        (pss_cons
        (ps_set (i := 3) sc__law_take.nd rfl (.inl rfl) (pe_ix ix_list (pv 0) pe_int (fun _ _ => rfl)))
        (pss_cons
        (ps_if (pt_cmpR op_ge (pv 2) (pe_op op_pow pe_int pe_int) (nomark _)) (pss_cons
          (ps_asg (pe_op op_fdivN (pv 2) (pv 1)) (pg_sub (pv 0) pe_int set_list))
          (pss_one
          (ps_ret (pe_op op_modN (pe_callTy call_int1 rfl B.int_ boot_int (pa_cons (pv 2) pa_nil)) (pv 1))))) pss_nil)
        (pss_cons
        (ps_set (i := 4) sc__law_take.nd rfl (.inl rfl) (pe_op op_modN (pe_callTy call_int1 rfl B.int_ boot_int (pa_cons (pe_op op_add (pe_op op_add (pv 2) (pe_op op_mul pe_int (pv 3))) pe_int) pa_nil)) pe_int))
        (pss_cons
        (ps_set (i := 4) sc__law_take.nd rfl (.inl rfl) (pe_op op_modN (pe_callTy call_int1 rfl B.int_ boot_int (pa_cons (pe_op op_mul (pv 4) (pe_op op_add (pv 4) pe_int)) pa_nil)) pe_int))
        (pss_cons
        (ps_set (i := 4) sc__law_take.nd rfl (.inl rfl) (pe_op op_modN (pe_callTy call_int1 rfl B.int_ boot_int (pa_cons (pe_op op_add (pe_op op_mul (pv 4) (pe_op op_add (pv 4) pe_int)) (pe_op op_mul pe_int (pv 3))) pa_nil)) pe_int))
        (pss_one
        (ps_ret (pe_op op_modN (pe_callTy call_int1 rfl B.int_ boot_int (pa_cons (pe_op op_fdivN (pv 4) pe_int) pa_nil)) (pv 1))))))))))), ?_⟩
  refine ⟨_, rfl, t, _, _, _, rfl, rfl, SqL.of ht, rfl, ?_⟩
  refine ⟨_, rfl, t, _, _, _, rfl, rfl, SqL.of ht, rfl, _, _, rfl, rfl, ?_⟩
  refine ⟨_, rfl, t, _, _, 1, rfl, rfl, ht, rfl, ?_⟩
  refine ⟨_, rfl, t, _, _, _, rfl, rfl, SqL.of upd_same, rfl, ?_⟩
  refine ⟨_, rfl, _, _, rfl, rfl, ⟨by decide, by decide, by decide⟩, _, _, rfl, rfl, _, rfl, ?_⟩
  refine ite2 (fun c1 => ?_) (fun c1 => ?_)
  · refine ⟨_, rfl, _, rfl, _, _, rfl, rfl, ⟨by omega, by omega⟩, ?_⟩
    refine ⟨_, rfl, t, _, _, 0, rfl, rfl, upd_same, rfl, ?_⟩
    refine ⟨_, rfl, .inl ⟨_, rfl, ?_⟩⟩
    refine ⟨_, rfl, _, _, rfl, rfl, by omega, ?_⟩
    exact q _ _ ((But.upd _).trans (But.upd _)) ⟨_, _, upd_same, Int.fdiv_nonneg hc (by omega), by omega⟩ (Int.fmod_nonneg_of_pos _ n0) (Int.fmod_lt_of_pos _ n0)
  · refine ⟨_, rfl, _, rfl, _, _, rfl, rfl, .inl ⟨by decide, by decide⟩, ?_⟩
    refine ⟨_, _, rfl, rfl, _, _, rfl, rfl, .inl ⟨_, rfl, ?_⟩⟩
    have m0 := Int.fmod_nonneg_of_pos (c + 7919 * (k + 1) + 13) (show (0 : Int) < 2147483647 by decide)
    have m1 := Int.fmod_lt_of_pos (c + 7919 * (k + 1) + 13) (show (0 : Int) < 2147483647 by decide)
    refine ⟨_, _, rfl, rfl, (show (2147483647 : Int) ≠ 0 by decide), ?_⟩
    refine ⟨_, rfl, _, rfl, _, _, rfl, rfl, _, _, rfl, rfl, .inl ⟨by omega, by omega⟩, .inl ⟨_, rfl, ?_⟩⟩
    refine ⟨_, _, rfl, rfl, (show (2147483629 : Int) ≠ 0 by decide), ?_⟩
    generalize (c + 7919 * (k + 1) + 13).fmod 2147483647 = m
    have m0' := Int.fmod_nonneg_of_pos (m * (m + 48271)) (show (0 : Int) < 2147483629 by decide)
    have m1' := Int.fmod_lt_of_pos (m * (m + 48271)) (show (0 : Int) < 2147483629 by decide)
    refine ⟨_, rfl, _, rfl, _, _, rfl, rfl, _, _, rfl, rfl, .inl ⟨by omega, by omega⟩, ?_⟩
    refine ⟨_, rfl, _, _, rfl, rfl, .inl ⟨by decide, by decide⟩, _, _, rfl, rfl, .inl ⟨_, rfl, ?_⟩⟩
    refine ⟨_, _, rfl, rfl, (show (2147483647 : Int) ≠ 0 by decide), ?_⟩
    refine ⟨_, rfl, _, _, rfl, rfl, ⟨by decide, by decide⟩, .inl ⟨_, rfl, ?_⟩⟩
    refine ⟨_, rfl, _, _, rfl, rfl, by omega, ?_⟩
    exact q _ _ (But.upd _) ⟨_, _, upd_same, hc, by omega⟩ (Int.fmod_nonneg_of_pos _ n0) (Int.fmod_lt_of_pos _ n0)


/-- a free tree -/
def spTree (m : Nat) : Sp := fun vs H Q _ => ∃ (t : Addr) (n lv : Int), vs = [.ref t, .int n, .int lv] ∧ Tape H t ∧ 0 < n ∧ n < 1073741824 ∧ 0 ≤ lv ∧ lv < (m : Int) ∧
  ∀ (H' : Hp) (v : V) (x : Tr), But t H H' → Tape H' t → TreeAt H' v x → x.Below n → x.Two → x.depth ≤ lv.toNat → 2 * x.asks + 1 ≤ 3 ^ lv.toNat → Q v H'
theorem two_words {r : Int} (h0 : 0 ≤ r) (h1 : r < 2) : ∃ s : Str, atI [V.str "older", V.str "newer"] r = some (.str s) ∧ (s = "older" ∨ s = "newer") := by
  have h : r = 0 ∨ r = 1 := by omega
  rcases h with h | h
  · subst h; exact ⟨_, rfl, .inl rfl⟩
  · subst h; exact ⟨_, rfl, .inr rfl⟩
theorem dn_tree (B : Bts mg) (F : Df K mg "_law_tree" s__law_tree P__law_tree) (D__law_take : Dn P w K mg base 1 "_law_take" spTake) : ∀ m : Nat, Dn P w K mg base (m + 2) "_law_tree" (spTree m)
  | 0 => F.none (fun vs H Q E h => by obtain ⟨t, n, lv, _, _, _, _, _, _, _⟩ := h; omega) 2
  | m + 1 => by
    have D__law_tree := dn_tree B F D__law_take m
    refine F.ok sc__law_tree (fun vs H Q E h => ?_) (fun f cdv A outer s H vs Q E hr h => ?_)
    · obtain ⟨t, n, lv, rfl, _⟩ := h; rfl
    obtain ⟨t, n, lv, rfl, hT, n0, n1, lv0, lv1, q⟩ := h
    refine ⟨_, (pss_cons
          (ps_if (PW.pt (pw_or (pt_cmpR op_eq (pv 2) pe_int (nomark _)) (pw_or1 (pt_cmpR op_eq (My.pe_callD D__law_take (hr.mono (by omega)) rfl (pa_cons (pv 0) (pa_cons pe_int pa_nil))) pe_int (nomark _))))) (pss_one
            (ps_ret (pe_ix ix_list (pe_lst (pa_cons pe_str (pa_cons pe_str pa_nil))) (My.pe_callD D__law_take (hr.mono (by omega)) rfl (pa_cons (pv 0) (pa_cons pe_int pa_nil))) (fun _ _ => rfl)))) pss_nil)
          (pss_cons
          (ps_set (i := 3) sc__law_tree.nd rfl (.inl rfl) (My.pe_callD D__law_take (hr.mono (by omega)) rfl (pa_cons (pv 0) (pa_cons (pv 1) pa_nil))))
          (pss_cons
          (ps_set (i := 4) sc__law_tree.nd rfl (.inl rfl) (My.pe_callD D__law_tree (hr.mono (by omega)) rfl (pa_cons (pv 0) (pa_cons (pv 1) (pa_cons (pe_op op_sub (pv 2) pe_int) pa_nil)))))
          (pss_cons
          (ps_set (i := 5) sc__law_tree.nd rfl (.inl rfl) (My.pe_callD D__law_tree (hr.mono (by omega)) rfl (pa_cons (pv 0) (pa_cons (pv 1) (pa_cons (pe_op op_sub (pv 2) pe_int) pa_nil)))))
          (pss_cons
          (ps_set (i := 6) sc__law_tree.nd rfl (.inl rfl) (My.pe_callD D__law_tree (hr.mono (by omega)) rfl (pa_cons (pv 0) (pa_cons (pv 1) (pa_cons (pe_op op_sub (pv 2) pe_int) pa_nil)))))
          (pss_one
          (ps_ret (pe_tup (pa_cons (pv 3) (pa_cons (pv 4) (pa_cons (pv 5) (pa_cons (pv 6) pa_nil)))))))))))), ?_⟩
    refine if_split (fun b H1 => But t H H1 ∧ Tape H1 t ∧ (b = false → lv ≠ 0)) (fun Q' qq => ?_) (fun H1 h => ?_) (fun H1 h => ?_)
    · refine ⟨_, rfl, rfl, _, rfl, ?_⟩
      refine ite2 (fun c => ?_) (fun c => ?_)
      · exact qq _ _ ⟨But.refl _ _, hT, fun z => by cases z⟩
      · refine ⟨_, rfl, t, 4, rfl, hT, by decide, by decide, fun H1 r b1 T1 r0 r1 => ?_⟩
        exact ⟨rfl, _, rfl, qq _ _ ⟨b1, T1, fun _ z => c (by rw [z]; exact decide_eq_true rfl)⟩⟩
    · obtain ⟨b1, T1, _⟩ := h
      refine ⟨small (by show 2 ≤ 100000; decide), fun p np => ?_⟩
      have g1 := same_new np (.lst [.str "older", .str "newer"])
      refine ⟨_, rfl, t, 2, rfl, T1.same g1, by decide, by decide, fun H2 r b2 T2 r0 r1 => ?_⟩
      obtain ⟨s, hs, hw⟩ := two_words r0 r1
      refine ⟨p, _, r, _, rfl, rfl, SqL.of (b2 p _ (T1.ne np) upd_same), hs, ?_⟩
      exact q _ _ (.leaf s) (b1.trans ((But.of g1).trans b2)) T2 (.leaf s) trivial hw (Nat.zero_le _) (Nat.one_le_pow _ _ (by decide))
    · obtain ⟨b1, T1, hl⟩ := h
      have hl := hl rfl
      refine ⟨_, rfl, _, rfl, t, n, rfl, T1, n0, n1, fun H2 fd b2 T2 f0 f1 => ?_⟩
      refine ⟨_, rfl, _, rfl, _, rfl, _, _, rfl, rfl, t, n, lv - 1, rfl, T2, n0, n1, by omega, by omega, fun H3 va xa b3 T3 a1 a2 a3 a4 a5 => ?_⟩
      refine ⟨_, rfl, _, rfl, _, rfl, _, _, rfl, rfl, t, n, lv - 1, rfl, T3, n0, n1, by omega, by omega, fun H4 vb xb b4 T4 c1 c2 c3 c4 c5 => ?_⟩
      refine ⟨_, rfl, _, rfl, _, rfl, _, _, rfl, rfl, t, n, lv - 1, rfl, T4, n0, n1, by omega, by omega, fun H5 vc xc b5 T5 d1 d2 d3 d4 d5 => ?_⟩
      refine ⟨_, rfl, _, rfl, _, rfl, _, rfl, small (by show 4 ≤ 100000; decide), fun p np => ?_⟩
      have g := same_new np (.tup [.int fd, va, vb, vc])
      have e : lv.toNat = (lv - 1).toNat + 1 := by omega
      refine q _ _ (.ask fd xa xb xc) (b1.trans (b2.trans (b3.trans (b4.trans (b5.trans (But.of g)))))) (T5.same g)
        (.ask upd_same (((a1.tape b4 T3).tape b5 T4).same g) ((c1.tape b5 T4).same g) (d1.same g)) ⟨f0, f1, a2, c2, d2⟩ ⟨a3, c3, d3⟩ ?_ ?_
      · rw [e]; simp only [Tr.depth]; omega
      · rw [e, Nat.pow_succ]; simp only [Tr.asks]; omega


def spIsInt : Sp := fun vs H Q _ => ∃ i : Int, vs = [.int i] ∧ Q (.bl true) H
theorem dn_isint (B : Bts mg) (F : Df K mg "_law_is_integer" s__law_is_integer P__law_is_integer) : Dn P w K mg base 1 "_law_is_integer" spIsInt := by
  refine F.ok sc__law_is_integer (fun vs H Q E h => ?_) (fun f cdv A outer s H vs Q E hr h => ?_)
  · obtain ⟨i, rfl, _⟩ := h; rfl
  obtain ⟨i, rfl, q⟩ := h
  refine ⟨_, (pss_one
        (ps_ret (pe_and (pe_callB call_isi rfl B.isinstance_ boot_isinstance (pa_cons (pv 0) (pa_cons (pe_bltn (v := .ty "int") rfl B.int_ boot_int rfl) pa_nil))) (pe_one (pe_not (pe_callB call_isi rfl B.isinstance_ boot_isinstance (pa_cons (pv 0) (pa_cons (pe_bltn (v := .ty "bool") rfl B.bool_ boot_bool rfl) pa_nil)))))))), ?_⟩
  refine ⟨_, rfl, _, _, _, _, true, rfl, .ty _, .base (.int _), k_ii, ?_⟩
  refine ⟨_, rfl, ?_⟩
  refine iteT ?_
  exact ⟨_, rfl, _, _, _, _, false, rfl, .ty _, .base (.int _), k_ib, _, rfl, q⟩


def spAsc : Sp := fun vs H Q _ => ∃ (p : Addr) (n : Int) (fs : List Int), vs = [.ref p, .int n] ∧ H p = some (.tup (fs.map V.int)) ∧ fs.Pairwise (· < ·) ∧ (∀ k ∈ fs, 0 ≤ k ∧ k < n) ∧ Q (.bl true) H
theorem dn_asc (B : Bts mg) (F : Df K mg "_law_is_ascending" s__law_is_ascending P__law_is_ascending) (D__law_is_integer : Dn P w K mg base 1 "_law_is_integer" spIsInt) : Dn P w K mg base 2 "_law_is_ascending" spAsc := by
  refine F.ok sc__law_is_ascending (fun vs H Q E h => ?_) (fun f cdv A outer s H vs Q E hr h => ?_)
  · obtain ⟨p, n, fs, rfl, _⟩ := h; rfl
  obtain ⟨p, n, fs, rfl, hp, pw, hm, q⟩ := h
  refine ⟨_, (pss_cons
        (ps_if (pt_not (pt_val (pe_callB call_isi rfl B.isinstance_ boot_isinstance (pa_cons (pv 0) (pa_cons (pe_bltn (v := .ty "tuple") rfl B.tuple_ boot_tuple rfl) pa_nil))))) (pss_one
          (ps_ret pe_bl)) pss_nil)
        (pss_cons
        (ps_set (i := 2) sc__law_is_ascending.nd rfl (.inl rfl) (pe_op op_sub pe_int pe_int))
        (pss_cons
        (ps_for PassesOwn.never rfl (pi_tup (pv 0)) (pg_name (i := 3) sc__law_is_ascending.nd rfl (.inl rfl)) (pss_cons
          (ps_if (PW.pt (pw_or (pt_not (pt_val (My.pe_callD D__law_is_integer (hr.mono (by omega)) rfl (pa_cons (pv 3) pa_nil)))) (pw_or1 (pt_not (pt_chain op_lt op_lt (pv 2) (pv 3) (pv 1)))))) (pss_one
            (ps_ret pe_bl)) pss_nil)
          (pss_one
          (ps_set (i := 2) sc__law_is_ascending.nd rfl (.inl rfl) (pv 3)))))
        (pss_one
        (ps_ret pe_bl))))), ?_⟩
  refine ⟨_, rfl, _, _, _, _, true, rfl, .ty _, .base (.tup hp), k_tt, ?_⟩
  refine ⟨_, rfl, ?_⟩
  refine iteF ?_
  refine ⟨_, _, rfl, rfl, ?_⟩
  refine ⟨_, rfl, p, rfl, ⟨_, SqT.of hp⟩, ?_⟩
  refine for_tup (xs := fs.map V.int) (fun i σ H' => H' = H ∧ ∃ (last : Int) (s3 : Option V), σ = [some (.ref p), some (.int n), some (.int last), s3] ∧ ∀ z, fs[i]? = some z → last < z)
    ⟨rfl, _, _, rfl, fun z hz => by have := hm z (List.mem_of_getElem? hz); omega⟩ ?_ ?_ ?_
  · rintro i σ H' _ ⟨rfl, _⟩
    exact SqT.of hp
  · rintro i x σ H' hx ⟨rfl, last, s3, rfl, hl⟩
    rw [List.getElem?_map] at hx
    obtain ⟨z, hz, rfl⟩ := Option.map_eq_some_iff.mp hx
    have h1 := hm z (List.mem_of_getElem? hz)
    have h2 := hl z hz
    refine ⟨_, rfl, z, rfl, ?_⟩
    refine ⟨_, rfl, ?_⟩
    refine iteF ?_
    refine ⟨_, rfl, _, rfl, _, _, rfl, rfl, _, rfl, ?_⟩
    refine ite2 (fun c => ?_) (fun c => absurd (decide_eq_true h2) c)
    refine ⟨_, rfl, _, _, rfl, rfl, _, rfl, ?_⟩
    rw [decide_eq_true h1.2]
    refine iteF ?_
    refine ⟨_, rfl, rfl, _, _, rfl, fun y hy => ?_⟩
    obtain ⟨b0, e0⟩ := List.getElem?_eq_some_iff.mp hz
    obtain ⟨b1, e1⟩ := List.getElem?_eq_some_iff.mp hy
    have := List.pairwise_iff_getElem.mp pw i (i + 1) b0 b1 (by omega)
    rw [e0, e1] at this
    exact this
  · rintro σ H' ⟨rfl, last, s3, rfl, _⟩
    exact q


/-- follow, as the law does it -/
def spLFollow (K : PySem.W.Frag) : Sp := fun vs H Q _ => ∃ (v : V) (r : Addr) (t : Tr) (rs : List Int), vs = [v, .ref r] ∧ TreeAt H v t ∧ SqT K H r (rs.map V.int) ∧ (∀ z ∈ rs, z = -1 ∨ z = 0 ∨ z = 1) ∧ t.Below rs.length ∧ t.depth < 60 ∧
  Q (.str (t.follow rs)) H
theorem dn_lfollow (B : Bts mg) (F : Df K mg "_law_follow" s__law_follow P__law_follow) : Dn P w K mg base 1 "_law_follow" (spLFollow K) := by
  refine F.ok sc__law_follow (fun vs H Q E h => ?_) (fun f cdv A outer s H vs Q E hr h => ?_)
  · obtain ⟨v, r, t, rs, rfl, _⟩ := h; rfl
  obtain ⟨v, r, t, rs, rfl, ht, hr', hs, hb, hd, q⟩ := h
  refine ⟨_, (pss_cons
        (ps_for PassesOwn.never rfl (pi_range1 rfl B.range_ (pa_cons pe_int pa_nil)) (pg_name (i := 2) sc__law_follow.nd rfl (.inl rfl)) (pss_cons
          (ps_if (pt_val (pe_callB call_isi rfl B.isinstance_ boot_isinstance (pa_cons (pv 0) (pa_cons (pe_bltn (v := .ty "str") rfl B.str_ boot_str rfl) pa_nil)))) (pss_one
            (ps_ret (pv 0))) pss_nil)
          (pss_one
          (ps_set (i := 0) sc__law_follow.nd rfl (.inl rfl) (pe_ix ix_tup (pv 0) (pe_op op_add pe_int (pe_ix ix_tup (pv 1) (pe_ix ix_tup (pv 0) pe_int (fun _ _ => rfl)) (fun _ _ => rfl))) (fun _ _ => rfl))))))
        (pss_one
        (ps_ret (pv 0)))), ?_⟩
  refine ⟨60, rfl, by decide, by decide, ?_⟩
  refine for_range (lo := 0) (n := 60) (fun i σ H' => H' = H ∧ ∃ v' t' s2, σ = [some v', some (.ref r), s2] ∧ TreeAt H v' t' ∧ t'.depth + i < 60 ∧ t'.Below rs.length ∧ t'.follow rs = t.follow rs)
    ⟨rfl, v, t, _, rfl, ht, hd, hb, rfl⟩ ?_ ?_
  · rintro i σ H' hi ⟨rfl, v', t', s2, rfl, ht', hd', hb', e⟩
    cases t' with
    | leaf s =>
      obtain rfl := ht'.invL
      refine ⟨_, rfl, _, _, _, _, true, rfl, .ty _, .base (.str _), k_ss, ?_⟩
      refine ⟨_, rfl, ?_⟩
      refine iteT ?_
      refine ⟨_, rfl, ?_⟩
      rw [← e] at q
      exact q
    | ask f a b c =>
      obtain ⟨p, va, vb, vc, rfl, hp, ha, hbb, hc⟩ := ht'.inv
      obtain ⟨h1, h2, h3, h4, h5⟩ := hb'
      refine ⟨_, rfl, _, _, _, _, false, rfl, .ty _, .base (.tup hp), k_ts, ?_⟩
      refine ⟨_, rfl, ?_⟩
      refine iteF ?_
      have hat := sgn_at (rs := rs) h1 h2
      have hin := hs _ (sgn_in (rs := rs) h1 h2)
      simp only [Tr.depth] at hd'
      simp only [Tr.follow] at e
      refine ⟨_, rfl, _, rfl, _, rfl, p, _, _, _, rfl, rfl, SqT.of hp, atI_0 _ _ _ _, r, _, _, _, rfl, rfl, hr', hat, _, _, rfl, rfl, ?_⟩
      rcases hin with z | z | z
      · rw [z] at e ⊢
        exact ⟨p, _, _, va, rfl, rfl, SqT.of hp, rfl, rfl, va, a, _, rfl, ha, by omega, h3, e⟩
      · rw [z] at e ⊢
        exact ⟨p, _, _, vb, rfl, rfl, SqT.of hp, rfl, rfl, vb, b, _, rfl, hbb, by omega, h4, e⟩
      · rw [z] at e ⊢
        exact ⟨p, _, _, vc, rfl, rfl, SqT.of hp, rfl, rfl, vc, c, _, rfl, hc, by omega, h5, e⟩
  · rintro σ H' ⟨rfl, v', t', s2, rfl, ht', hd', _⟩
    omega


/-- the tree without asks of a field -/
def spFixed (m : Nat) : Sp := fun vs H Q _ => ∃ (v : V) (t : Tr) (g k : Int), vs = [v, .int g, .int k] ∧ TreeAt H v t ∧ t.depth < m ∧ (k = -1 ∨ k = 0 ∨ k = 1) ∧
  ∀ (H' : Hp) (v' : V), Same H H' → TreeAt H' v' (t.fixed g k) → Q v' H'
theorem dn_fixed (B : Bts mg) (F : Df K mg "fixed" s_fixed P_fixed) (D_branch : Dn P w K mg base 1 "branch" spBranch) : ∀ m : Nat, Dn P w K mg base (m + 1) "fixed" (spFixed m)
  | 0 => F.none (fun vs H Q E h => by obtain ⟨v, t, g, k, _, _, h, _⟩ := h; omega) 1
  | m + 1 => by
    have D_fixed := dn_fixed B F D_branch m
    refine F.ok sc_fixed (fun vs H Q E h => ?_) (fun f cdv A outer s H vs Q E hr h => ?_)
    · obtain ⟨v, t, g, k, rfl, _⟩ := h; rfl
    obtain ⟨v, t, g, k, rfl, ht, hd, hk, q⟩ := h
    refine ⟨_, (pss_cons
          (ps_if (pt_val (pe_callB call_isi rfl B.isinstance_ boot_isinstance (pa_cons (pv 0) (pa_cons (pe_bltn (v := .ty "str") rfl B.str_ boot_str rfl) pa_nil)))) (pss_one
            (ps_ret (pv 0))) pss_nil)
          (pss_cons
          (ps_if (pt_cmpR op_eq (pe_ix ix_tup (pv 0) pe_int (fun _ _ => rfl)) (pv 1) (nomark _)) (pss_one
            (ps_ret (My.pe_callD D_fixed (hr.mono (by omega)) rfl (pa_cons (My.pe_callD D_branch (hr.mono (by omega)) rfl (pa_cons (pv 0) (pa_cons (pv 2) pa_nil))) (pa_cons (pv 1) (pa_cons (pv 2) pa_nil)))))) pss_nil)
          (pss_one
          (ps_ret (pe_tup (pa_cons (pe_ix ix_tup (pv 0) pe_int (fun _ _ => rfl)) (pa_cons (My.pe_callD D_fixed (hr.mono (by omega)) rfl (pa_cons (pe_ix ix_tup (pv 0) pe_int (fun _ _ => rfl)) (pa_cons (pv 1) (pa_cons (pv 2) pa_nil)))) (pa_cons (My.pe_callD D_fixed (hr.mono (by omega)) rfl (pa_cons (pe_ix ix_tup (pv 0) pe_int (fun _ _ => rfl)) (pa_cons (pv 1) (pa_cons (pv 2) pa_nil)))) (pa_cons (My.pe_callD D_fixed (hr.mono (by omega)) rfl (pa_cons (pe_ix ix_tup (pv 0) pe_int (fun _ _ => rfl)) (pa_cons (pv 1) (pa_cons (pv 2) pa_nil)))) pa_nil))))))))), ?_⟩
    cases t with
    | leaf s =>
      obtain rfl := ht.invL
      refine ⟨_, rfl, _, _, _, _, true, rfl, .ty _, .base (.str _), k_ss, ?_⟩
      refine ⟨_, rfl, ?_⟩
      refine iteT ?_
      exact ⟨_, rfl, q H _ (Same.refl _) (.leaf s)⟩
    | ask f a b c =>
      obtain ⟨p, va, vb, vc, rfl, hp, ha, hb, hc⟩ := ht.inv
      simp only [Tr.depth] at hd
      refine ⟨_, rfl, _, _, _, _, false, rfl, .ty _, .base (.tup hp), k_ts, ?_⟩
      refine ⟨_, rfl, ?_⟩
      refine iteF ?_
      refine ⟨_, rfl, p, _, _, _, rfl, rfl, SqT.of hp, atI_0 _ _ _ _, _, rfl, rfl, _, rfl, ?_⟩
      refine ite2 (fun e => ?_) (fun e => ?_)
      · have e' : f = g := by have := of_decide_eq_true e; injection this
        subst e'
        have go : ∀ (u : V) (x : Tr), atI [V.int f, va, vb, vc] (k + 2) = some u → TreeAt H u x → x.depth < m → (Tr.ask f a b c).fixed f k = x.fixed f k →
            ∃ u x, atI [V.int f, va, vb, vc] (k + 2) = some u ∧ TreeAt H u x ∧ x.depth < m ∧ (Tr.ask f a b c).fixed f k = x.fixed f k := fun u x h1 h2 h3 h4 => ⟨u, x, h1, h2, h3, h4⟩
        have : ∃ u x, atI [V.int f, va, vb, vc] (k + 2) = some u ∧ TreeAt H u x ∧ x.depth < m ∧ (Tr.ask f a b c).fixed f k = x.fixed f k := by
          rcases hk with z | z | z
          · subst z; exact go va a rfl ha (by omega) (by simp [Tr.fixed])
          · subst z; exact go vb b rfl hb (by omega) (by simp [Tr.fixed])
          · subst z; exact go vc c rfl hc (by omega) (by simp [Tr.fixed])
        obtain ⟨u, x, h1, h2, h3, h4⟩ := this
        refine ⟨_, rfl, _, rfl, p, k, _, u, rfl, hp, h1, ?_⟩
        refine ⟨_, rfl, _, rfl, u, x, f, k, rfl, h2, h3, hk, fun H' v' g1 t1 => ?_⟩
        rw [h4] at q
        exact q H' v' g1 t1
      · have e' : ¬ f = g := fun z => e (by rw [z]; exact decide_eq_true rfl)
        refine ⟨_, rfl, p, _, _, _, rfl, rfl, SqT.of hp, atI_0 _ _ _ _, ?_⟩
        refine ⟨_, rfl, p, _, _, _, rfl, rfl, SqT.of hp, atI_1 _ _ _ _, ?_⟩
        refine ⟨_, rfl, _, rfl, va, a, g, k, rfl, ha, by omega, hk, fun H1 v1 g1 t1 => ?_⟩
        refine ⟨_, rfl, p, _, _, _, rfl, rfl, SqT.of (g1 _ _ hp), atI_2 _ _ _ _, ?_⟩
        refine ⟨_, rfl, _, rfl, vb, b, g, k, rfl, hb.same g1, by omega, hk, fun H2 v2 g2 t2 => ?_⟩
        refine ⟨_, rfl, p, _, _, _, rfl, rfl, SqT.of (g2 _ _ (g1 _ _ hp)), atI_3 _ _ _ _, ?_⟩
        refine ⟨_, rfl, _, rfl, vc, c, g, k, rfl, (hc.same g1).same g2, by omega, hk, fun H3 v3 g3 t3 => ?_⟩
        refine ⟨small (by show 4 ≤ 100000; decide), fun p4 n4 => ?_⟩
        have g4 := same_new n4 (.tup [.int f, v1, v2, v3])
        refine q _ _ (g1.trans (g2.trans (g3.trans g4))) ?_
        rw [show (Tr.ask f a b c).fixed g k = .ask f (a.fixed g k) (b.fixed g k) (c.fixed g k) from if_neg e']
        exact .ask upd_same (((t1.same g2).same g3).same g4) ((t2.same g3).same g4) (t3.same g4)

/-- the least tree by an order -/
def spLio (m : Nat) : Sp := fun vs H Q _ => ∃ (v : V) (t : Tr) (f : Int) (r : Addr) (o : List Int), vs = [v, .int f, .ref r] ∧ TreeAt H v t ∧ t.depth < 30 ∧ t.Two ∧ H r = some (.lst (o.map V.int)) ∧ o.length < m ∧ o.length ≤ 50 ∧
  (∀ z ∈ t.fields, z ∈ o) ∧ ∀ (H' : Hp) (v' : V), Same H H' → TreeAt H' v' (Tr.lio f o t) → Q v' H'
theorem cut1 (x : V) (xs : List V) : cutV (x :: xs) (some 1) none = xs := by
  unfold cutV
  rw [show HT.sIx (x :: xs).length 0 (some 1) = min 1 (x :: xs).length from HT.sIx_nat _ 0 1, HT.sIx_none]
  rw [show min 1 (x :: xs).length = 1 by rw [List.length_cons]; omega]
  simp
theorem dn_lio (B : Bts mg) (F : Df K mg "least_in_order" s_least_in_order P_least_in_order) (D_fixed : Dn P w K mg base 31 "fixed" (spFixed 30)) : ∀ m : Nat, Dn P w K mg base (m + 32) "least_in_order" (spLio m)
  | 0 => F.none (fun vs H Q E h => by obtain ⟨v, t, f, r, o, _, _, _, _, _, h, _⟩ := h; omega) 32
  | m + 1 => by
    have D_least_in_order := dn_lio B F D_fixed m
    refine F.ok sc_least_in_order (fun vs H Q E h => ?_) (fun fa cdv A outer s H vs Q E hr h => ?_)
    · obtain ⟨v, t, f, r, o, rfl, _⟩ := h; rfl
    obtain ⟨v, t, f, r, o, rfl, ht, hd, h2, ho, hm, hm2, hs, q⟩ := h
    refine ⟨_, (pss_cons
          (ps_if (pt_val (pe_callB call_isi rfl B.isinstance_ boot_isinstance (pa_cons (pv 0) (pa_cons (pe_bltn (v := .ty "str") rfl B.str_ boot_str rfl) pa_nil)))) (pss_one
            (ps_ret (pv 0))) pss_nil)
          (pss_cons
          (ps_par (i := 3) (j := 4) rfl sc_least_in_order.nd rfl rfl (by decide) rfl rfl (pa_cons (pe_ix ix_list (pv 2) pe_int (fun _ _ => rfl)) (pa_cons (pe_slice sl_list (pv 2) (po_some pe_int) po_none) pa_nil)) rfl)
          (pss_cons
          (ps_set (i := 5) sc_least_in_order.nd rfl (.inl rfl) (My.pe_callD D_least_in_order (hr.mono (by omega)) rfl (pa_cons (My.pe_callD D_fixed (hr.mono (by omega)) rfl (pa_cons (pv 0) (pa_cons (pv 3) (pa_cons (pe_un un_neg pe_int) pa_nil)))) (pa_cons (pv 1) (pa_cons (pv 4) pa_nil)))))
          (pss_cons
          (ps_set (i := 6) sc_least_in_order.nd rfl (.inl rfl) (My.pe_callD D_least_in_order (hr.mono (by omega)) rfl (pa_cons (My.pe_callD D_fixed (hr.mono (by omega)) rfl (pa_cons (pv 0) (pa_cons (pv 3) (pa_cons pe_int pa_nil)))) (pa_cons (pv 1) (pa_cons (pv 4) pa_nil)))))
          (pss_cons
          (ps_if (pt_cmpR op_eq (pv 3) (pv 1) (nomark _)) (pss_one
            (ps_ret (pe_ifExp (pt_cmpR (op_eqD hr.units) (pv 5) (pv 6) (nomark _)) (pv 5) (pe_tup (pa_cons (pv 3) (pa_cons (pv 5) (pa_cons pe_str (pa_cons (pv 6) pa_nil)))))))) pss_nil)
          (pss_cons
          (ps_set (i := 7) sc_least_in_order.nd rfl (.inl rfl) (My.pe_callD D_least_in_order (hr.mono (by omega)) rfl (pa_cons (My.pe_callD D_fixed (hr.mono (by omega)) rfl (pa_cons (pv 0) (pa_cons (pv 3) (pa_cons pe_int pa_nil)))) (pa_cons (pv 1) (pa_cons (pv 4) pa_nil)))))
          (pss_cons
          (ps_if (PW.pt (pw_and (pt_cmpR (op_eqD hr.units) (pv 5) (pv 7) (nomark _)) (pw_and1 (pt_cmpR (op_eqD hr.units) (pv 7) (pv 6) (nomark _))))) (pss_one
            (ps_ret (pv 5))) pss_nil)
          (pss_one
          (ps_ret (pe_tup (pa_cons (pv 3) (pa_cons (pv 5) (pa_cons (pv 7) (pa_cons (pv 6) pa_nil)))))))))))))), ?_⟩
    match t, o with
    | .leaf s, o =>
      obtain rfl := ht.invL
      refine ⟨_, rfl, _, _, _, _, true, rfl, .ty _, .base (.str _), k_ss, ?_⟩
      refine ⟨_, rfl, ?_⟩
      refine iteT ?_
      refine ⟨_, rfl, q H _ (Same.refl _) ?_⟩
      rw [Tr.lio_leaf]
      exact .leaf s
    | .ask g a b c, [] => exact absurd (hs g (by simp [Tr.fields])) (by simp)
    | .ask g a b c, x :: o =>
      generalize ht0 : Tr.ask g a b c = t at *
      have : ∃ p xs, v = .ref p ∧ H p = some (.tup xs) := by
        subst ht0
        obtain ⟨p, va, vb, vc, e, hp, _⟩ := ht.inv
        exact ⟨p, _, e, hp⟩
      obtain ⟨p, xs, rfl, hp⟩ := this
      have fl : ∀ k : Int, ∀ z ∈ (t.fixed x k).fields, z ∈ o := fun k z hz => by
        obtain ⟨u1, u2⟩ := Tr.fixed_fields x k t z hz
        exact (List.mem_cons.mp (hs z u1)).resolve_left u2
      have fd : ∀ k : Int, (t.fixed x k).depth < 30 := fun k => Nat.lt_of_le_of_lt (Tr.fixed_depth x k t) hd
      have ft : ∀ k : Int, (t.fixed x k).Two := fun k => Tr.fixed_two x k t h2
      have ld : ∀ k : Int, (Tr.lio f o (t.fixed x k)).depth ≤ 60 := fun k => Nat.le_trans (Tr.lio_depth f o _ (fl k)) (by simp only [List.length_cons] at hm2; omega)
      have lt : ∀ k : Int, (Tr.lio f o (t.fixed x k)).Two := fun k => Tr.lio_two f o _ (ft k)
      simp only [List.length_cons] at hm hm2
      refine ⟨_, rfl, _, _, _, _, false, rfl, .ty _, .base (.tup hp), k_ts, ?_⟩
      refine ⟨_, rfl, ?_⟩
      refine iteF ?_
      refine ⟨_, rfl, r, _, _, _, rfl, rfl, SqL.of ho, atI_hd _ _, ?_⟩
      refine ⟨_, rfl, _, rfl, r, _, rfl, SqL.of ho, fun pr nr => ?_⟩
      rw [show cutV (List.map V.int (x :: o)) (some 1) none = o.map V.int from cut1 _ _]
      have g0 := same_new nr (.lst (o.map V.int))
      refine ⟨_, _, rfl, ?_⟩
      refine ⟨_, rfl, _, rfl, _, rfl, _, t, x, -1, rfl, ht.same g0, hd, .inl rfl, fun H1 v1 g1 t1 => ?_⟩
      refine ⟨_, rfl, _, rfl, v1, _, f, pr, o, rfl, t1, fd _, ft _, g1 _ _ upd_same, by omega, by omega, fl _, fun H2 v2 g2 t2 => ?_⟩
      have g02 := g0.trans (g1.trans g2)
      refine ⟨_, rfl, _, rfl, _, t, x, 1, rfl, ht.same g02, hd, .inr (.inr rfl), fun H3 v3 g3 t3 => ?_⟩
      refine ⟨_, rfl, _, rfl, v3, _, f, pr, o, rfl, t3, fd _, ft _, g3 _ _ (g2 _ _ (g1 _ _ upd_same)), by omega, by omega, fl _, fun H4 v4 g4 t4 => ?_⟩
      have g24 := g3.trans g4
      have g04 := g02.trans g24
      have t2' := t2.same g24
      refine ⟨_, rfl, _, rfl, rfl, _, rfl, ?_⟩
      refine ite2 (fun e => ?_) (fun e => ?_)
      · have e' : x = f := by have := of_decide_eq_true e; injection this
        subst e'
        refine ⟨_, rfl, _, rfl, _, _, t2'.dp, t4.dp, Tr.py_shaped (lt _) (ld _), Tr.py_shaped (lt _) (ld _), _, rfl, ?_⟩
        rw [Tr.py_eqv]
        have eq : Tr.lio x (x :: o) t = if Tr.lio x o (t.fixed x (-1)) = Tr.lio x o (t.fixed x 1) then Tr.lio x o (t.fixed x (-1)) else .ask x (Tr.lio x o (t.fixed x (-1))) (.leaf "older") (Tr.lio x o (t.fixed x 1)) := by
          show Tr.join x x _ _ _ = _
          unfold Tr.join
          rw [if_pos rfl]
        refine ite2 (fun c => ?_) (fun c => ?_)
        · have c' := of_decide_eq_true c
          refine ⟨_, rfl, q _ _ g04 ?_⟩
          rw [eq, if_pos c']
          exact t2'
        · have c' := of_decide_eq_false (Bool.eq_false_iff.mpr c)
          refine ⟨_, rfl, _, rfl, _, rfl, small (by show 4 ≤ 100000; decide), fun p5 n5 => ?_⟩
          have g5 := same_new n5 (.tup [.int x, v2, .str "older", v4])
          refine q _ _ (g04.trans g5) ?_
          rw [eq, if_neg c']
          exact .ask upd_same (t2'.same g5) (.leaf _) (t4.same g5)
      · have e' : ¬ x = f := fun z => e (by rw [z]; exact decide_eq_true rfl)
        refine ⟨_, rfl, _, rfl, _, t, x, 0, rfl, ht.same g04, hd, .inr (.inl rfl), fun H5 v5 g5 t5 => ?_⟩
        refine ⟨_, rfl, _, rfl, v5, _, f, pr, o, rfl, t5, fd _, ft _, g5 _ _ (g24 _ _ (g2 _ _ (g1 _ _ upd_same))), by omega, by omega, fl _, fun H6 v6 g6 t6 => ?_⟩
        have g46 := g5.trans g6
        have g06 := g04.trans g46
        have t26 := t2'.same g46
        have t46 := t4.same g46
        have eq : Tr.lio f (x :: o) t = if Tr.lio f o (t.fixed x (-1)) = Tr.lio f o (t.fixed x 0) ∧ Tr.lio f o (t.fixed x 0) = Tr.lio f o (t.fixed x 1) then Tr.lio f o (t.fixed x (-1)) else .ask x (Tr.lio f o (t.fixed x (-1))) (Tr.lio f o (t.fixed x 0)) (Tr.lio f o (t.fixed x 1)) := by
          show Tr.join f x _ _ _ = _
          unfold Tr.join
          rw [if_neg e']
        have last : ¬ (Tr.lio f o (t.fixed x (-1)) = Tr.lio f o (t.fixed x 0) ∧ Tr.lio f o (t.fixed x 0) = Tr.lio f o (t.fixed x 1)) → ∀ p, H6 p = none → Q (.ref p) (upd H6 p (.tup [.int x, v2, v6, v4])) := fun c p np => by
          have g7 := same_new np (.tup [.int x, v2, v6, v4])
          refine q _ _ (g06.trans g7) ?_
          rw [eq, if_neg c]
          exact .ask upd_same (t26.same g7) (t6.same g7) (t46.same g7)
        refine ⟨_, rfl, _, rfl, _, _, t26.dp, t6.dp, Tr.py_shaped (lt _) (ld _), Tr.py_shaped (lt _) (ld _), _, rfl, ?_⟩
        rw [Tr.py_eqv]
        refine ite2 (fun c => ?_) (fun c => ?_)
        · have c' := of_decide_eq_true c
          refine ⟨_, rfl, _, rfl, _, _, t6.dp, t46.dp, Tr.py_shaped (lt _) (ld _), Tr.py_shaped (lt _) (ld _), _, rfl, ?_⟩
          rw [Tr.py_eqv]
          refine ite2 (fun c2 => ?_) (fun c2 => ?_)
          · have c2' := of_decide_eq_true c2
            refine ⟨_, rfl, q _ _ g06 ?_⟩
            rw [eq, if_pos ⟨c', c2'⟩]
            exact t26
          · have c2' := of_decide_eq_false (Bool.eq_false_iff.mpr c2)
            exact ⟨_, rfl, _, rfl, _, rfl, _, rfl, small (by show 4 ≤ 100000; decide), last fun z => c2' z.2⟩
        · have c' := of_decide_eq_false (Bool.eq_false_iff.mpr c)
          exact ⟨_, rfl, _, rfl, _, rfl, _, rfl, small (by show 4 ≤ 100000; decide), last fun z => c' z.1⟩

/-- the field itself, then the others in ascending order -/
def upto (n : Nat) : List Int := (List.range n).map fun (k : Nat) => ((k : Nat) : Int)
theorem upto_succ (n : Nat) : upto (n + 1) = upto n ++ [(n : Int)] := by
  unfold upto
  rw [List.range_succ, List.map_append]
  rfl
theorem mem_upto {n : Nat} {z : Int} : z ∈ upto n ↔ 0 ≤ z ∧ z < (n : Int) := by
  unfold upto
  rw [List.mem_map]
  constructor
  · rintro ⟨k, hk, rfl⟩
    have := List.mem_range.mp hk
    omega
  · rintro ⟨h0, h1⟩
    exact ⟨z.toNat, List.mem_range.mpr (by omega), by omega⟩
theorem upto_nodup (n : Nat) : (upto n).Nodup := by
  unfold upto
  refine List.Pairwise.map _ (fun a b h e => h ?_) List.nodup_range
  omega
def oth (f : Int) (n : Nat) : List Int := (upto n).filter fun z => decide (z ≠ f)
theorem oth_succ (f : Int) (n : Nat) : oth f (n + 1) = if (n : Int) ≠ f then oth f n ++ [(n : Int)] else oth f n := by
  unfold oth
  rw [upto_succ, List.filter_append]
  by_cases e : (n : Int) ≠ f
  · rw [if_pos e, List.filter_cons_of_pos (by simpa using e)]; rfl
  · rw [if_neg e, List.filter_cons_of_neg (by simpa using e)]; simp
theorem oth_len (f : Int) (n : Nat) : (oth f n).length ≤ n := by
  have := List.length_filter_le (fun z => decide (z ≠ f)) (upto n)
  unfold oth
  simp only [upto, List.length_map, List.length_range] at this ⊢
  exact this
def ordF (f : Int) (n : Nat) : List Int := f :: oth f n
theorem mem_ordF {f z : Int} {n : Nat} (hf : 0 ≤ f ∧ f < (n : Int)) : z ∈ ordF f n ↔ 0 ≤ z ∧ z < (n : Int) := by
  unfold ordF oth
  rw [List.mem_cons, List.mem_filter, mem_upto]
  constructor
  · rintro (h | h)
    · subst h; exact hf
    · exact h.1
  · intro h
    by_cases e : z = f
    · exact .inl e
    · exact .inr ⟨h, by simpa using e⟩
theorem ordF_nodup (f : Int) (n : Nat) : (ordF f n).Nodup := by
  unfold ordF oth
  refine List.nodup_cons.mpr ⟨fun h => ?_, (upto_nodup n).filter _⟩
  have := (List.mem_filter.mp h).2
  simp at this
def least (f : Int) (n : Nat) (t : Tr) : Tr := Tr.lio f (ordF f n) t
def spLeast : Sp := fun vs H Q _ => ∃ (v : V) (t : Tr) (f : Int) (n : Nat), vs = [v, .int f, .int (n : Int)] ∧ TreeAt H v t ∧ t.depth < 30 ∧ t.asks ≤ 1000 ∧ t.Two ∧ 0 ≤ f ∧ f < (n : Int) ∧ n ≤ 8 ∧ t.Below (n : Int) ∧
  ∀ (H' : Hp) (v' : V), Same H H' → TreeAt H' v' (least f n t) → Q v' H'
theorem dn_least (B : Bts mg) (F : Df K mg "least_tree" s_least_tree P_least_tree) (D_asked : Dn P w K mg base 61 "asked" spAsked) (D_least_in_order : Dn P w K mg base 42 "least_in_order" (spLio 10)) : Dn P w K mg base 62 "least_tree" spLeast := by
  refine F.ok sc_least_tree (fun vs H Q E h => ?_) (fun fa cdv A outer s H vs Q E hr h => ?_)
  · obtain ⟨v, t, f, n, rfl, _⟩ := h; rfl
  obtain ⟨v, t, f, n, rfl, ht, hd, hz, h2, f0, f1, hn, hb, q⟩ := h
  refine ⟨_, (pss_cons
        (ps_set (i := 3) sc_least_tree.nd rfl (.inr rfl) (My.pe_callD D_asked (hr.mono (by omega)) rfl (pa_cons (pv 0) pa_nil)))
        (pss_cons
        (ps_setLc (i := 4) (own := [("other", 5)]) (g := gName 5) rfl sc_least_tree.nd rfl rfl (sw_true rfl rfl rfl (by decide +kernel)) (pi_range1 rfl B.range_ (pa_cons (pv 2) pa_nil)) (blkOk_by (own := [("other", 5)]) (N := N_least_tree) (sc := defScope s_least_tree) (by decide +kernel)) (fun _ _ _ _ _ => pg_name (i := 5) sc_least_tree.nd rfl (.inl rfl)) (fun _ _ _ _ _ => (pts_one (pt_cmpR op_ne (pv 5) (pv 1) (nomark _)))) (fun _ _ _ _ _ => (pv 5)))
        (pss_one
        (ps_ret (My.pe_callD D_least_in_order (hr.mono (by omega)) rfl (pa_cons (pv 0) (pa_cons (pv 1) (pa_cons (pe_lc (own := [("place", 6)]) (g := gName 6) rfl sc_least_tree.nd (pi_list (pe_op op_cat (pe_lst (pa_cons (pv 1) pa_nil)) (pv 4))) (blkOk_by (own := [("place", 6)]) (N := N_least_tree) (sc := defScope s_least_tree) (by decide +kernel)) (fun _ _ _ _ _ => pg_name (i := 6) sc_least_tree.nd rfl (.inl rfl)) (fun _ _ _ _ _ => (pts_one (pt_cmpR (in_seqK (K := K) rfl) (pv 6) (pv 3) (by rfl)))) (fun _ _ _ _ _ => (pv 6))) pa_nil)))))))), ?_⟩
  refine ⟨_, rfl, v, t, rfl, ht, by omega, hz, hb.mono (by omega), fun p1 H1 fs g1 pw m e1 => ?_⟩
  refine ⟨_, rfl, _, rfl, by omega, by omega, fun D nD => ?_⟩
  refine lc_range (lo := 0) (n := ((n : Nat) : Int).toNat) (fun i H' => H' D = some (.lst ((oth f i).map V.int)) ∧ Same H1 H') ⟨upd_same, same_new nD _⟩ ?_ ?_
  · rintro i H2 hi ⟨e2, g2⟩
    refine ⟨rfl, ?_⟩
    refine ⟨_, rfl, _, rfl, rfl, _, rfl, ?_⟩
    have ll := oth_len f i
    by_cases c : (i : Int) = f
    · rw [show decide (V.int (0 + (i : Int)) = V.int f) = true from decide_eq_true (by rw [Int.zero_add, c])]
      refine iteF ?_
      rw [oth_succ, if_neg (fun z => z c)]
      exact ⟨e2, g2⟩
    · rw [show decide (V.int (0 + (i : Int)) = V.int f) = false from decide_eq_false (fun z => c (by injection z with z; omega))]
      refine iteT ?_
      refine ⟨_, rfl, _, e2, smallLt (by rw [List.length_map]; omega), ?_, g2.later nD⟩
      rw [upd_same, oth_succ, if_pos c, List.map_append, Int.zero_add]
      rfl
  · rintro H2 ⟨e2, g2⟩
    rw [show ((n : Nat) : Int).toNat = n from rfl] at e2
    have ll := oth_len f n
    refine ⟨_, rfl, _, rfl, _, rfl, small (by show 1 ≤ 100000; decide), fun p2 n2 => ?_⟩
    have g3 := same_new n2 (.lst [.int f])
    refine ⟨_, rfl, p2, D, _, _, rfl, rfl, upd_same, g3 _ _ e2, small (by rw [List.length_map]; show 1 + _ ≤ 100000; omega), fun p3 n3 => ?_⟩
    have g4 := same_new n3 (.lst ([.int f] ++ (oth f n).map V.int))
    refine ⟨p3, rfl, ⟨_, SqL.of upd_same⟩, fun D2 nD2 => ?_⟩
    have g5 := g2.trans (g3.trans g4)
    refine lc_list (a := p3) (xs := (ordF f n).map V.int) (fun i H' => H' D2 = some (.lst ((((ordF f n).take i).filter fun z => decide (z ∈ fs)).map V.int)) ∧ Same (upd (upd H2 p2 (.lst [.int f])) p3 (.lst ([.int f] ++ (oth f n).map V.int))) H')
      ⟨upd_same, same_new nD2 _⟩ (fun i H' _ ⟨_, g⟩ => SqL.of (g _ _ upd_same)) ?_ ?_
    · rintro i x H6 hx ⟨e6, g6⟩
      rw [List.getElem?_map] at hx
      obtain ⟨z, hz', rfl⟩ := Option.map_eq_some_iff.mp hx
      have et : (ordF f n).take (i + 1) = (ordF f n).take i ++ [z] := by rw [List.take_add_one, hz']; rfl
      have ll2 : (((ordF f n).take i).filter fun z => decide (z ∈ fs)).length ≤ 100 := by
        have h1 := List.length_filter_le (fun z => decide (z ∈ fs)) ((ordF f n).take i)
        have h2 : ((ordF f n).take i).length ≤ (ordF f n).length := by rw [List.length_take]; omega
        have h3 : (ordF f n).length = (oth f n).length + 1 := rfl
        omega
      refine ⟨rfl, ?_⟩
      refine ⟨_, rfl, _, rfl, p1, _, rfl, .inr (SqT.of (g6 _ _ (g5 _ _ e1))), rfl, flat_ints fs, _, rfl, ?_⟩
      rw [inV_int]
      refine ite2 (fun c => ?_) (fun c => ?_)
      · have c' : z ∈ fs := of_decide_eq_true c
        refine ⟨_, rfl, _, e6, smallLt (by rw [List.length_map]; omega), ?_, g6.later nD2⟩
        rw [upd_same, et, List.filter_append, List.filter_cons_of_pos (by simpa using c'), List.map_append]
        rfl
      · have c' : ¬ z ∈ fs := fun h => c (decide_eq_true h)
        refine ⟨?_, g6⟩
        rw [et, List.filter_append, List.filter_cons_of_neg (by simpa using c')]
        simpa using e6
    · rintro H6 ⟨e6, g6⟩
      rw [List.length_map, List.take_length] at e6
      have g16 := g1.trans (g5.trans g6)
      have fin : ∀ z ∈ t.fields, decide (z ∈ fs) = true := fun z hz => decide_eq_true ((m z).mpr hz)
      have ll2 : ((ordF f n).filter fun z => decide (z ∈ fs)).length ≤ 9 := by
        have h1 := List.length_filter_le (fun z => decide (z ∈ fs)) (ordF f n)
        have h3 : (ordF f n).length = (oth f n).length + 1 := rfl
        omega
      refine ⟨v, t, f, D2, _, rfl, ht.same g16, hd, h2, e6, by omega, by omega, fun z hz => ?_, fun H7 v' g7 t7 => ?_⟩
      · exact List.mem_filter.mpr ⟨(mem_ordF ⟨f0, f1⟩).mpr (Tr.below_mem hb z hz), fin z hz⟩
      · rw [Tr.lio_filter f _ _ t fin] at t7
        exact q _ _ (g16.trans g7) t7
/-- what the least tree is -/
theorem _root_.My.Tr.below_of {n : Int} : ∀ {u : Tr}, (∀ z ∈ u.fields, 0 ≤ z ∧ z < n) → u.Below n := by
  intro u
  induction u with
  | leaf s => intro _; trivial
  | ask g a b c i1 i2 i3 =>
    intro h
    simp only [Tr.fields, List.mem_append, List.mem_singleton] at h
    have hg := h g (.inl (.inl (.inl rfl)))
    exact ⟨hg.1, hg.2, i1 fun z hz => h z (.inl (.inl (.inr hz))), i2 fun z hz => h z (.inl (.inr hz)), i3 fun z hz => h z (.inr hz)⟩
theorem least_props {f : Int} {n : Nat} {t : Tr} (hf : 0 ≤ f ∧ f < (n : Int)) (hb : t.Below (n : Int)) (h2 : t.Two) :
    (least f n t).Below (n : Int) ∧ (least f n t).Two ∧ (least f n t).depth ≤ n := by
  have hs : ∀ z ∈ t.fields, z ∈ ordF f n := fun z hz => (mem_ordF hf).mpr (Tr.below_mem hb z hz)
  refine ⟨?_, Tr.lio_two f _ t h2, Nat.le_trans (Tr.lio_depth f _ t hs) (nodup_small n (ordF f n) (ordF_nodup f n) fun z hz => (mem_ordF hf).mp hz)⟩
  exact Tr.below_of fun z hz => Tr.below_mem hb z (Tr.lio_fields f _ t hs z hz)
theorem least_props_b {f : Int} {n : Nat} {t : Tr} (hf : 0 ≤ f ∧ f < (n : Int)) (hb : t.Below (n : Int)) : (least f n t).Below (n : Int) :=
  Tr.below_of fun z hz => Tr.below_mem hb z (Tr.lio_fields f _ t (fun z hz => (mem_ordF hf).mpr (Tr.below_mem hb z hz)) z hz)
theorem sg_row {rs : List Int} (h : ∀ z ∈ rs, z = -1 ∨ z = 0 ∨ z = 1) : Tr.Sg (Tr.sgn rs) := fun z => by
  unfold Tr.sgn
  rw [List.getD_eq_getElem?_getD]
  cases e : rs[z.toNat]? with
  | none => exact .inr (.inl rfl)
  | some x => exact h x (List.mem_of_getElem? e)
/-- the rows in which a field's sign is not 0 -/
def rowsOf (f : Int) (n : Nat) : List (List Int) := (allRows n).filter fun rs => !decide (Tr.sgn rs f = 0)
theorem least_follow {f : Int} {n : Nat} {t : Tr} {rs : List Int} (h : rs ∈ rowsOf f n) : (least f n t).follow rs = t.follow rs := by
  obtain ⟨h1, h2⟩ := List.mem_filter.mp h
  have h2 : Tr.sgn rs f ≠ 0 := by simpa using h2
  obtain ⟨_, h4⟩ := (mem_allRows n rs).mp h1
  rw [Tr.follow_fol, Tr.follow_fol]
  exact Tr.lio_sound f _ t _ (sg_row h4) fun _ => h2
theorem least_iff {f : Int} {n : Nat} {t u : Tr} (hf : 0 ≤ f ∧ f < (n : Int)) (ht : t.Below (n : Int)) (hu : u.Below (n : Int)) :
    decide (least f n t = least f n u) = (rowsOf f n).all fun rs => decide (t.follow rs = u.follow rs) := by
  by_cases e : least f n t = least f n u
  · rw [decide_eq_true e]
    refine (List.all_eq_true.mpr fun rs hrs => decide_eq_true ?_).symm
    exact (least_follow (t := t) hrs).symm.trans (by rw [e]; exact least_follow hrs)
  · rw [decide_eq_false e]
    refine (Bool.eq_false_iff.mpr fun h => e ?_).symm
    have h := List.all_eq_true.mp h
    refine Tr.lio_canon f _ t u (ordF_nodup f n) (fun z hz => (mem_ordF hf).mpr (Tr.below_mem ht z hz)) (fun z hz => (mem_ordF hf).mpr (Tr.below_mem hu z hz)) fun σ hs h0 => ?_
    obtain ⟨rs, hrs, hm⟩ := row_of_sg hs n
    have hin : rs ∈ rowsOf f n := List.mem_filter.mpr ⟨hrs, by
      have := h0 (List.mem_cons_self ..)
      rw [hm f hf.1 hf.2]
      simpa using this⟩
    have key := of_decide_eq_true (h rs hin)
    rw [Tr.follow_fol, Tr.follow_fol] at key
    rw [Tr.fol_eq (τ := Tr.sgn rs) fun z hz => (hm z (Tr.below_mem ht z hz).1 (Tr.below_mem ht z hz).2).symm, Tr.fol_eq (t := u) (τ := Tr.sgn rs) fun z hz => (hm z (Tr.below_mem hu z hz).1 (Tr.below_mem hu z hz).2).symm]
    exact key
theorem least_least {f : Int} {n : Nat} {t : Tr} (hf : 0 ≤ f ∧ f < (n : Int)) (ht : t.Below (n : Int)) (h2 : t.Two) : least f n (least f n t) = least f n t := by
  have p := least_props hf ht h2
  have := least_iff hf p.1 ht (t := least f n t) (u := t)
  refine of_decide_eq_true (this.trans (List.all_eq_true.mpr fun rs hrs => decide_eq_true (least_follow hrs)))

/-- a tree written otherwise -/
def KnownOk (ks : List V) : Prop := ∀ k ∈ ks, k = .non ∨ ∃ s : Int, k = .int s ∧ (s = -1 ∨ s = 0 ∨ s = 1)
def spPad (m : Nat) : Sp := fun vs H Q _ => ∃ (t : Addr) (v : V) (x : Tr) (f : Int) (q : Addr) (ks : List V) (lv : Nat), vs = [.ref t, v, .int f, .ref q, .int (lv : Int)] ∧ Tape H t ∧ TreeAt H v x ∧ x.Two ∧ H q = some (.lst ks) ∧ q ≠ t ∧
  0 < ks.length ∧ ks.length ≤ 100 ∧ KnownOk ks ∧ x.Below (ks.length : Int) ∧ x.depth + lv < m ∧
  ∀ (H' : Hp) (v' : V) (y : Tr), But t H H' → Tape H' t → TreeAt H' v' y → y.Below (ks.length : Int) → y.Two → y.depth ≤ x.depth + lv + 1 → Q v' H'
theorem cutA (a : List V) (x : V) (b : List V) : cutV (a ++ x :: b) none (some ((a.length : Nat) : Int)) = a := by
  unfold cutV
  rw [HT.sIx_none, show HT.sIx (a ++ x :: b).length (a ++ x :: b).length (some ((a.length : Nat) : Int)) = min a.length (a ++ x :: b).length from HT.sIx_nat _ _ _]
  rw [show min a.length (a ++ x :: b).length = a.length by rw [List.length_append]; omega]
  simp
theorem cutB (a : List V) (x : V) (b : List V) : cutV (a ++ x :: b) (some (((a.length : Nat) : Int) + 1)) none = b := by
  unfold cutV
  rw [show (((a.length : Nat) : Int) + 1) = ((a.length + 1 : Nat) : Int) by omega]
  rw [HT.sIx_none, show HT.sIx (a ++ x :: b).length 0 (some ((a.length + 1 : Nat) : Int)) = min (a.length + 1) (a ++ x :: b).length from HT.sIx_nat _ _ _]
  rw [show min (a.length + 1) (a ++ x :: b).length = a.length + 1 by rw [List.length_append, List.length_cons]; omega]
  simp
  rw [show a.length + (b.length + 1) - (a.length + 1) = b.length by omega]
  exact List.take_length
theorem dn_padded (B : Bts mg) (F : Df K mg "_law_padded" s__law_padded P__law_padded) (D__law_take : Dn P w K mg base 1 "_law_take" spTake) (D__law_tree : Dn P w K mg base 4 "_law_tree" (spTree 2)) : ∀ m : Nat, Dn P w K mg base (m + 5) "_law_padded" (spPad m)
  | 0 => F.none (fun vs H Q E h => by obtain ⟨t, v, x, f, q, ks, lv, _, _, _, _, _, _, _, _, _, _, h, _⟩ := h; omega) 5
  | m + 1 => by
    have D__law_padded := dn_padded B F D__law_take D__law_tree m
    refine F.ok sc__law_padded (fun vs H Q E h => ?_) (fun fa cdv A outer s H vs Q E hr h => ?_)
    · obtain ⟨t, v, x, f, q, ks, lv, rfl, _⟩ := h; rfl
    obtain ⟨t, v, x, f, q, ks, lv, rfl, hT, hx, h2, hq, hqt, k0, k1, hk, hb, hm, fin⟩ := h
    refine ⟨_, (pss_cons
          (ps_if (PW.pt (pw_and (pt_cmpR op_gt (pv 4) pe_int (nomark _)) (pw_and1 (pt_cmpR op_eq (My.pe_callD D__law_take (hr.mono (by omega)) rfl (pa_cons (pv 0) (pa_cons pe_int pa_nil))) pe_int (nomark _))))) (pss_cons
            (ps_set (i := 5) sc__law_padded.nd rfl (.inl rfl) (My.pe_callD D__law_take (hr.mono (by omega)) rfl (pa_cons (pv 0) (pa_cons (pe_callB call_len_seq rfl B.len_ PySem.boot_len (pa_cons (pv 3) pa_nil)) pa_nil))))
            (pss_cons
            (ps_set (i := 1) sc__law_padded.nd rfl (.inl rfl) (pe_tup (pa_cons (pv 5) (pa_cons (pv 1) (pa_cons (pv 1) (pa_cons (pv 1) pa_nil))))))
            (pss_one
            (ps_set (i := 4) sc__law_padded.nd rfl (.inl rfl) (pe_op op_sub (pv 4) pe_int))))) pss_nil)
          (pss_cons
          (ps_if (pt_val (pe_callB call_isi rfl B.isinstance_ boot_isinstance (pa_cons (pv 1) (pa_cons (pe_bltn (v := .ty "str") rfl B.str_ boot_str rfl) pa_nil)))) (pss_one
            (ps_ret (pv 1))) pss_nil)
          (pss_cons
          (ps_set (i := 6) sc__law_padded.nd rfl (.inl rfl) (pe_ix ix_tup (pv 1) pe_int (fun _ _ => rfl)))
          (pss_cons
          (ps_if (PW.pt (pw_and (pt_cmpR op_notN (pe_ix ix_list (pv 3) (pv 6) (fun _ _ => rfl)) pe_non (nomark _)) (pw_and1 (pt_cmpR op_eq (My.pe_callD D__law_take (hr.mono (by omega)) rfl (pa_cons (pv 0) (pa_cons pe_int pa_nil))) pe_int (nomark _))))) (pss_one
            (ps_ret (My.pe_callD D__law_padded (hr.mono (by omega)) rfl (pa_cons (pv 0) (pa_cons (pe_ix ix_tup (pv 1) (pe_op op_add pe_int (pe_ix ix_list (pv 3) (pv 6) (fun _ _ => rfl))) (fun _ _ => rfl)) (pa_cons (pv 2) (pa_cons (pv 3) (pa_cons (pv 4) pa_nil)))))))) pss_nil)
          (pss_cons
          (ps_set (i := 7) sc__law_padded.nd rfl (.inl rfl) (pe_lst pa_nil))
          (pss_cons
          (ps_for PassesOwn.never rfl (pi_list (pe_lst (pa_cons (pe_op op_sub pe_int pe_int) (pa_cons pe_int (pa_cons pe_int pa_nil))))) (pg_name (i := 8) sc__law_padded.nd rfl (.inl rfl)) (pss_one
            (ps_if (PW.pt (pw_or (PW.pt (pw_and (pt_cmpR op_eq (pv 6) (pv 2) (nomark _)) (pw_and1 (pt_cmpR op_eq (pv 8) pe_int (nomark _))))) (pw_or1 (PW.pt (pw_and (pt_cmpR op_notN (pe_ix ix_list (pv 3) (pv 6) (fun _ _ => rfl)) pe_non (nomark _)) (pw_and1 (pt_cmpR op_ne (pe_ix ix_list (pv 3) (pv 6) (fun _ _ => rfl)) (pv 8) (nomark _)))))))) (pss_one
              (ps_expr (pe_bm PySem.F.plainAttrs_list PySem.F.slot_list_append PySem.F.type_list_append mt_append (pv 7) (pa_cons (My.pe_callD D__law_tree (hr.mono (by omega)) rfl (pa_cons (pv 0) (pa_cons (pe_callB call_len_seq rfl B.len_ PySem.boot_len (pa_cons (pv 3) pa_nil)) (pa_cons pe_int pa_nil)))) pa_nil)))) (pss_cons
              (ps_set (i := 9) sc__law_padded.nd rfl (.inl rfl) (pe_op op_cat (pe_op op_cat (pe_slice sl_list (pv 3) po_none (po_some (pv 6))) (pe_lst (pa_cons (pv 8) pa_nil))) (pe_slice sl_list (pv 3) (po_some (pe_op op_add (pv 6) pe_int)) po_none)))
              (pss_one
              (ps_expr (pe_bm PySem.F.plainAttrs_list PySem.F.slot_list_append PySem.F.type_list_append mt_append (pv 7) (pa_cons (My.pe_callD D__law_padded (hr.mono (by omega)) rfl (pa_cons (pv 0) (pa_cons (pe_ix ix_tup (pv 1) (pe_op op_add pe_int (pv 8)) (fun _ _ => rfl)) (pa_cons (pv 2) (pa_cons (pv 9) (pa_cons (pv 4) pa_nil)))))) pa_nil))))))))
          (pss_one
          (ps_ret (pe_tup (pa_cons (pv 6) (pa_cons (pe_ix ix_list (pv 7) pe_int (fun _ _ => rfl)) (pa_cons (pe_ix ix_list (pv 7) pe_int (fun _ _ => rfl)) (pa_cons (pe_ix ix_list (pv 7) pe_int (fun _ _ => rfl)) pa_nil))))))))))))), ?_⟩
    refine st_split (t := tIfS _ _ _) (fun σ' H' => ∃ v' x' lv' s5, σ' = [some (.ref t), some v', some (.int f), some (.ref q), some (.int ((lv' : Nat) : Int)), s5, none, none, none, none] ∧ But t H H' ∧ Tape H' t ∧ TreeAt H' v' x' ∧ x'.Two ∧ x'.Below (ks.length : Int) ∧ x'.depth + lv' ≤ x.depth + lv)
      (fun D' hD' => ?_) ?_
    · refine if_split (fun b H1 => But t H H1 ∧ Tape H1 t ∧ (b = true → 0 < lv)) (fun Q' qq => ?_) (fun H1 h => ?_) (fun H1 h => ?_)
      · refine ⟨_, rfl, _, _, rfl, rfl, _, rfl, ?_⟩
        refine ite2 (fun c => ?_) (fun c => ?_)
        · have c' : (0 : Int) < (lv : Int) := of_decide_eq_true c
          refine ⟨_, rfl, t, 3, rfl, hT, by decide, by decide, fun H1 r b1 T1 r0 r1 => ⟨rfl, _, rfl, ?_⟩⟩
          exact qq _ _ ⟨b1, T1, fun _ => by omega⟩
        · exact qq _ _ ⟨But.refl _ _, hT, fun z => by cases z⟩
      · obtain ⟨b1, T1, hl⟩ := h
        have hl := hl rfl
        have hq1 := b1 q _ hqt hq
        refine ⟨_, rfl, _, rfl, q, _, rfl, .inl (SqL.of hq1), t, (ks.length : Int), rfl, T1, by omega, by omega, fun H2 e b2 T2 e0 e1 => ?_⟩
        have hx2 := (hx.tape b1 hT).tape b2 T1
        refine ⟨_, rfl, _, rfl, _, rfl, _, rfl, small (by show 4 ≤ 100000; decide), fun p np => ?_⟩
        have g := same_new np (.tup [.int e, v, v, v])
        refine ⟨_, rfl, _, _, rfl, rfl, ?_⟩
        refine hD' _ _ ⟨.ref p, .ask e x x x, lv - 1, some (.int e), by rw [show ((lv - 1 : Nat) : Int) = (lv : Int) - 1 by omega]; rfl, b1.trans (b2.trans (But.of g)), T2.same g, .ask upd_same (hx2.same g) (hx2.same g) (hx2.same g), ⟨h2, h2, h2⟩, ⟨e0, e1, hb, hb, hb⟩, ?_⟩
        simp only [Tr.depth]; omega
      · obtain ⟨b1, T1, _⟩ := h
        exact hD' _ _ ⟨v, x, lv, none, rfl, b1, T1, hx.tape b1 hT, h2, hb, Nat.le_refl _⟩
    clear hx h2 hb
    rintro σ' H1 ⟨v', x', lv', s5, rfl, b1, T1, hx, h2, hb, hd⟩
    have hq1 := b1 q _ hqt hq
    cases x' with
    | leaf s =>
      obtain rfl := hx.invL
      refine ⟨_, rfl, _, _, _, _, true, rfl, .ty _, .base (.str _), k_ss, ?_⟩
      refine ⟨_, rfl, ?_⟩
      refine iteT ?_
      exact ⟨_, rfl, fin H1 _ _ b1 T1 (.leaf s) trivial h2 (Nat.zero_le _)⟩
    | ask g a b c =>
      obtain ⟨p, va, vb, vc, rfl, hp, ha, hbb, hc⟩ := hx.inv
      simp only [Tr.depth] at hd
      obtain ⟨w1, w2, w3⟩ := h2
      obtain ⟨g0, g1, y1, y2, y3⟩ := hb
      refine ⟨_, rfl, _, _, _, _, false, rfl, .ty _, .base (.tup hp), k_ts, ?_⟩
      refine ⟨_, rfl, ?_⟩
      refine iteF ?_
      refine ⟨_, rfl, p, _, _, _, rfl, rfl, SqT.of hp, atI_0 _ _ _ _, ?_⟩
      have hg : g.toNat < ks.length := by omega
      have eg : g = ((g.toNat : Nat) : Int) := by omega
      have hat : atI ks g = some ks[g.toNat] := by
        have z : atI ks ((g.toNat : Nat) : Int) = some ks[g.toNat] := atI_nat (List.getElem?_eq_getElem hg)
        rw [← eg] at z
        exact z
      have hkg := hk _ (List.getElem_mem hg)
      have hdec : ∃ A Bk, ks = A ++ ks[g.toNat] :: Bk ∧ A.length = g.toNat := ⟨ks.take g.toNat, ks.drop (g.toNat + 1), by rw [List.getElem_cons_drop, List.take_append_drop], by rw [List.length_take]; omega⟩
      generalize ks[g.toNat] = kg at hat hkg hdec
      have pick : ∀ (H' : Hp) (s : Int), But t H1 H' → (s = -1 ∨ s = 0 ∨ s = 1) → ∃ u y, atI [V.int g, va, vb, vc] (2 + s) = some u ∧ TreeAt H' u y ∧ y.Two ∧ y.Below (ks.length : Int) ∧ y.depth + lv' < m ∧ y.depth + 1 ≤ (Tr.ask g a b c).depth := fun H' s bb hs => by
        rcases hs with z | z | z
        · subst z; exact ⟨va, a, rfl, ha.tape bb T1, w1, y1, by omega, by simp only [Tr.depth]; omega⟩
        · subst z; exact ⟨vb, b, rfl, hbb.tape bb T1, w2, y2, by omega, by simp only [Tr.depth]; omega⟩
        · subst z; exact ⟨vc, c, rfl, hc.tape bb T1, w3, y3, by omega, by simp only [Tr.depth]; omega⟩
      have pl : ∀ H' : Hp, But t H1 H' → H' p = some (.tup [.int g, va, vb, vc]) := fun H' bb => by obtain ⟨l, z⟩ := T1.lst; exact bb.tup z hp
      dsimp only [gName]
      refine st_splitR (t := tIfS _ _ _) (fun σ' H' => σ' = [some (.ref t), some (.ref p), some (.int f), some (.ref q), some (.int ((lv' : Nat) : Int)), s5, some (.int g), none, none, none] ∧ But t H1 H' ∧ Tape H' t) (fun D' hrt hD' => ?_) ?_
      · refine if_split (fun b H' => But t H1 H' ∧ Tape H' t ∧ (b = true → ∃ s : Int, kg = .int s ∧ (s = -1 ∨ s = 0 ∨ s = 1))) (fun Q' qq => ?_) (fun H' h => ?_) (fun H' h => ?_)
        · refine ⟨_, rfl, _, rfl, q, _, _, _, rfl, rfl, SqL.of hq1, hat, rfl, _, rfl, ?_⟩
          rcases hkg with z | ⟨s, z, hs⟩
          · subst z
            refine iteF ?_
            exact qq _ _ ⟨But.refl _ _, T1, fun z => by cases z⟩
          · subst z
            refine iteT ?_
            refine ⟨_, rfl, t, 2, rfl, T1, by decide, by decide, fun H2 r b2 T2 r0 r1 => ⟨rfl, _, rfl, ?_⟩⟩
            exact qq _ _ ⟨b2, T2, fun _ => ⟨s, rfl, hs⟩⟩
        · obtain ⟨b2, T2, hq'⟩ := h
          obtain ⟨s, z, hs⟩ := hq' rfl
          subst z
          obtain ⟨u, y, e1, e2, e3, e4, e5, e6⟩ := pick H' s b2 hs
          refine ⟨_, rfl, _, rfl, _, rfl, _, rfl, q, _, _, _, rfl, rfl, SqL.of (b2 q _ hqt hq1), hat, _, _, rfl, rfl, p, _, _, _, rfl, rfl, SqT.of (pl H' b2), e1, ?_⟩
          refine ⟨_, rfl, _, rfl, _, rfl, t, u, y, f, q, ks, lv', rfl, T2, e2, e3, b2 q _ hqt hq1, hqt, k0, k1, hk, e4, e5, fun H3 v3 y3' b3 T3 z1 z2 z3 z4 => ?_⟩
          rw [hrt]
          exact fin _ _ _ (b1.trans (b2.trans b3)) T3 z1 z2 z3 (by simp only [Tr.depth] at e6; omega)
        · obtain ⟨b2, T2, _⟩ := h
          exact hD' _ _ ⟨rfl, b2, T2⟩
      rintro σ' H2 ⟨rfl, b2, T2⟩
      have hq2 := b2 q _ hqt hq1
      refine ⟨small (by show 0 ≤ 100000; decide), fun D nD => ?_⟩
      have gD := same_new nD (.lst [])
      have hDt : D ≠ t := T2.ne nD
      refine ⟨_, _, rfl, rfl, small (by show 3 ≤ 100000; decide), fun pL nL => ?_⟩
      have gL := same_new nL (.lst [.int (0 - 1), .int 0, .int 1])
      refine ⟨pL, rfl, ⟨_, SqL.of upd_same⟩, ?_⟩
      have hDL : D ≠ pL := fun e => by subst e; rw [upd_same] at nL; cases nL
      have nL2 : H2 pL = none := gD.free nL
      have hLt : pL ≠ t := T2.ne nL2
      refine for_list (a := pL) (xs := [.int (0 - 1), .int 0, .int 1]) (fun i σ H' => ∃ us s8 s9, σ = [some (.ref t), some (.ref p), some (.int f), some (.ref q), some (.int ((lv' : Nat) : Int)), s5, some (.int g), some (.ref D), s8, s9] ∧ But t H2 H' ∧ Tape H' t ∧
          H' pL = some (.lst [.int (0 - 1), .int 0, .int 1]) ∧ H' D = some (.lst us) ∧ us.length = i ∧ ∀ u ∈ us, ∃ y, TreeAt H' u y ∧ y.Below (ks.length : Int) ∧ y.Two ∧ y.depth ≤ x.depth + lv)
        ⟨[], _, _, rfl, But.of (gD.trans gL), (T2.same gD).same gL, upd_same, gL _ _ upd_same, rfl, fun _ h => nomatch h⟩ (fun i σ H' _ ⟨_, _, _, _, _, _, h, _⟩ => SqL.of h) ?_ ?_
      · rintro i y σ H3 hi ⟨us0, s8, s9, rfl, b3, T3, eL, eD, l3, hu⟩
        have il : i < 3 := (List.getElem?_eq_some_iff.mp hi).1
        have : ∃ s : Int, y = .int s ∧ (s = -1 ∨ s = 0 ∨ s = 1) := by
          have : i = 0 ∨ i = 1 ∨ i = 2 := by omega
          rcases this with z | z | z
          · subst z; exact ⟨0 - 1, (Option.some.inj hi).symm, .inl rfl⟩
          · subst z; exact ⟨0, (Option.some.inj hi).symm, .inr (.inl rfl)⟩
          · subst z; exact ⟨1, (Option.some.inj hi).symm, .inr (.inr rfl)⟩
        obtain ⟨s, rfl, hs⟩ := this
        have hq3 := b3 q _ hqt hq2
        have hqD : q ≠ D := fun e => by subst e; exact ne_of_none hq2 nD rfl
        have inv : ∀ (H' : Hp) (u : V) (y : Tr) (z8 z9 : Option V), But t H3 H' → Tape H' t → TreeAt H' u y → y.Below (ks.length : Int) → y.Two → y.depth ≤ x.depth + lv →
            ∃ us s8 s9, [some (.ref t), some (.ref p), some (.int f), some (.ref q), some (.int ((lv' : Nat) : Int)), s5, some (.int g), some (.ref D), z8, z9] = [some (V.ref t), some (.ref p), some (.int f), some (.ref q), some (.int ((lv' : Nat) : Int)), s5, some (.int g), some (.ref D), s8, s9] ∧ But t H2 (upd H' D (.lst (us0 ++ [u]))) ∧ Tape (upd H' D (.lst (us0 ++ [u]))) t ∧
              upd H' D (.lst (us0 ++ [u])) pL = some (.lst [.int (0 - 1), .int 0, .int 1]) ∧ upd H' D (.lst (us0 ++ [u])) D = some (.lst us) ∧ us.length = i + 1 ∧ ∀ u' ∈ us, ∃ y, TreeAt (upd H' D (.lst (us0 ++ [u]))) u' y ∧ y.Below (ks.length : Int) ∧ y.Two ∧ y.depth ≤ x.depth + lv := fun H' u y z8 z9 bb TT q1 q2 q3 q4 => by
          have eD' := bb D _ hDt eD
          refine ⟨us0 ++ [u], z8, z9, rfl, (b3.trans bb).later nD, TT.upd hDt, by rw [upd_ne hDL.symm]; exact bb pL _ hLt eL, upd_same, by simp [l3], fun u' hu' => ?_⟩
          rcases List.mem_append.mp hu' with hu' | hu'
          · obtain ⟨y', a1, a2, a3, a4⟩ := hu u' hu'
            exact ⟨y', (a1.tape bb T3).keep fun p' xs e => upd_tup eD' e, a2, a3, a4⟩
          · rw [List.mem_singleton] at hu'
            subst hu'
            exact ⟨y, q1.keep fun p' xs e => upd_tup eD' e, q2, q3, q4⟩
        refine if_split (fun b H' => H' = H3) (fun Q' qq => ?_) (fun H' h => ?_) (fun H' h => ?_)
        · have all : ∀ z, Q' z H3 := fun z => qq z _ rfl
          refine ⟨_, rfl, _, rfl, rfl, _, rfl, ?_⟩
          refine ite2 (fun c1 => ?_) (fun c1 => ?_)
          · refine ⟨_, rfl, rfl, _, rfl, ?_⟩
            refine ite2 (fun c2 => all _) (fun c2 => ?_)
            refine ⟨_, rfl, _, rfl, q, _, _, _, rfl, rfl, SqL.of hq3, hat, rfl, _, rfl, ?_⟩
            rcases hkg with z | ⟨s', z, hs'⟩
            · subst z
              refine iteF ?_
              exact all _
            · subst z
              refine iteT ?_
              exact ⟨_, rfl, _, rfl, q, _, _, _, rfl, rfl, SqL.of hq3, hat, _, rfl, rfl, _, rfl, all _⟩
          · refine iteF ?_
            refine ⟨_, rfl, _, rfl, q, _, _, _, rfl, rfl, SqL.of hq3, hat, rfl, _, rfl, ?_⟩
            rcases hkg with z | ⟨s', z, hs'⟩
            · subst z
              refine iteF ?_
              exact all _
            · subst z
              refine iteT ?_
              exact ⟨_, rfl, _, rfl, q, _, _, _, rfl, rfl, SqL.of hq3, hat, _, rfl, rfl, _, rfl, all _⟩
        · subst h
          refine ⟨_, rfl, .inl ⟨rfl, _, SqL.of eD⟩, _, rfl, _, rfl, q, _, rfl, .inl (SqL.of hq3), t, (ks.length : Int), 1, rfl, T3, by omega, by omega, by decide, by decide, fun H4 v4 y4 b4 T4 z1 z2 z3 z4 z5 => ?_⟩
          refine ⟨D, _, _, rfl, rfl, b4 D _ hDt eD, smallLt (by omega), ?_⟩
          have z4 : y4.depth ≤ 1 := z4
          exact inv H4 v4 y4 _ _ b4 T4 z1 z2 z3 (by omega)
        · subst h
          obtain ⟨A0, Bk, hks, hA⟩ := hdec
          have eA : g = ((A0.length : Nat) : Int) := by omega
          have lks : ks.length = A0.length + Bk.length + 1 := by rw [hks, List.length_append, List.length_cons]; omega
          refine ⟨_, rfl, _, rfl, _, rfl, q, _, rfl, SqL.of hq3, fun pa na => ?_⟩
          rw [show cutV ks none (some g) = A0 by rw [hks, eA]; exact cutA _ _ _]
          have ga := same_new na (.lst A0)
          refine ⟨_, rfl, small (by show 1 ≤ 100000; decide), fun pb nb => ?_⟩
          have gb := same_new nb (.lst [.int s])
          refine ⟨pa, pb, _, _, rfl, rfl, gb _ _ upd_same, upd_same, small (by show A0.length + 1 ≤ 100000; omega), fun pc nc => ?_⟩
          have gc := same_new nc (.lst (A0 ++ [.int s]))
          have gac := ga.trans (gb.trans gc)
          refine ⟨_, rfl, _, rfl, _, _, rfl, rfl, _, rfl, q, _, rfl, SqL.of (gac _ _ hq3), fun pd nd => ?_⟩
          rw [show cutV ks (some (g + 1)) none = Bk by rw [hks, eA]; exact cutB _ _ _]
          have gd := same_new nd (.lst Bk)
          refine ⟨pc, pd, _, _, rfl, rfl, gd _ _ upd_same, upd_same, small (by rw [List.length_append]; show A0.length + 1 + Bk.length ≤ 100000; omega), fun pe ne => ?_⟩
          have ge := same_new ne (.lst (A0 ++ [.int s] ++ Bk))
          have gae := gac.trans (gd.trans ge)
          have bae := But.of (t := t) gae
          have Tae := T3.same gae
          obtain ⟨u, y, e1, e2, e3, e4, e5, e6⟩ := pick _ s (b2.trans (b3.trans bae)) hs
          have hpl := pl _ (b2.trans (b3.trans bae))
          have hpet : pe ≠ t := (T3.same (gac.trans gd)).ne ne
          have lnew : (A0 ++ [V.int s] ++ Bk).length = ks.length := by rw [lks]; simp only [List.length_append, List.length_cons, List.length_nil]; omega
          refine ⟨_, rfl, .inl ⟨rfl, _, SqL.of (gae _ _ eD)⟩, _, rfl, _, rfl, _, rfl, _, _, rfl, rfl, p, _, _, _, rfl, rfl, SqT.of hpl, e1, ?_⟩
          refine ⟨_, rfl, _, rfl, _, rfl, t, u, y, f, pe, _, lv', rfl, Tae, e2, e3, upd_same, hpet, by rw [lnew]; exact k0, by rw [lnew]; exact k1, fun k hk' => ?_, by rw [lnew]; exact e4, e5, fun H4 v4 y4 b4 T4 z1 z2 z3 z4 => ?_⟩
          · rcases List.mem_append.mp hk' with h | h
            · rcases List.mem_append.mp h with h | h
              · exact hk k (by rw [hks]; exact List.mem_append_left _ h)
              · rw [List.mem_singleton] at h; subst h; exact .inr ⟨s, rfl, hs⟩
            · exact hk k (by rw [hks]; exact List.mem_append_right _ (List.mem_cons_of_mem _ h))
          · rw [lnew] at z2
            refine ⟨D, _, _, rfl, rfl, b4 D _ hDt (gae _ _ eD), smallLt (by omega), ?_⟩
            exact inv H4 v4 y4 _ _ (bae.trans b4) T4 z1 z2 z3 (by simp only [Tr.depth] at e6; omega)
      · rintro σ H3 ⟨us, s8, s9, rfl, b3, T3, eL, eD, l3, hu⟩
        match us, l3 with
        | [u0, u1, u2], _ =>
          obtain ⟨x0, q0, q1, q2, q3⟩ := hu u0 (by simp)
          obtain ⟨x1, r0, r1, r2, r3⟩ := hu u1 (by simp)
          obtain ⟨x2, t0, t1, t2, t3⟩ := hu u2 (by simp)
          refine ⟨_, rfl, _, rfl, D, _, _, _, rfl, rfl, SqL.of eD, rfl, ?_⟩
          refine ⟨_, rfl, D, _, _, _, rfl, rfl, SqL.of eD, rfl, ?_⟩
          refine ⟨_, rfl, D, _, _, _, rfl, rfl, SqL.of eD, rfl, ?_⟩
          refine ⟨small (by show 4 ≤ 100000; decide), fun p4 n4 => ?_⟩
          have g4 := same_new n4 (.tup [.int g, u0, u1, u2])
          refine fin _ _ (.ask g x0 x1 x2) (b1.trans (b2.trans (b3.trans (But.of g4)))) (T3.same g4) (.ask upd_same (q0.same g4) (r0.same g4) (t0.same g4)) ⟨g0, g1, q1, r1, t1⟩ ⟨q2, r2, t2⟩ ?_
          simp only [Tr.depth]; omega

/-- a row of signs lies at u -/
def RowT (H : Hp) (u : V) (rs : List Int) : Prop := ∃ p, u = .ref p ∧ H p = some (.tup (rs.map V.int))
theorem RowT.keep {H H' : Hp} {u : V} {rs : List Int} (k : ∀ p xs, H p = some (.tup xs) → H' p = some (.tup xs)) (h : RowT H u rs) : RowT H' u rs := by
  obtain ⟨p, rfl, h⟩ := h
  exact ⟨p, rfl, k _ _ h⟩
abbrev RowsT (H : Hp) : List V → List (List Int) → Prop := Paired (RowT H)
theorem RowsT.keep {H H' : Hp} {us : List V} {rss : List (List Int)} (k : ∀ p xs, H p = some (.tup xs) → H' p = some (.tup xs)) (h : RowsT H us rss) : RowsT H' us rss := Paired.mapP h fun _ _ q => q.keep k
theorem Paired.at {α β : Type} {R : α → β → Prop} : ∀ {l₁ : List α} {l₂ : List β} {i : Nat} {x : α}, Paired R l₁ l₂ → l₁[i]? = some x → ∃ y, l₂[i]? = some y ∧ R x y
  | _, _, _, _, .nil, e => by simp at e
  | _, _, 0, _, .cons r _, e => by simp at e; subst e; exact ⟨_, rfl, r⟩
  | _, _, i + 1, x, .cons _ t, e => by
    obtain ⟨y, h1, h2⟩ := Paired.at (i := i) t (by simpa using e)
    exact ⟨y, by simpa using h1, h2⟩
theorem Paired.app {α β : Type} {R : α → β → Prop} : ∀ {a c : List α} {b d : List β}, Paired R a b → Paired R c d → Paired R (a ++ c) (b ++ d)
  | _, _, _, _, .nil, h => h
  | _, _, _, _, .cons r t, h => .cons r (Paired.app t h)
def ext3 (rs : List Int) : List (List Int) := [rs ++ [-1], rs ++ [0], rs ++ [1]]
theorem rows_len : ∀ n : Nat, (allRows n).length = 3 ^ n
  | 0 => rfl
  | n + 1 => by
    have : ∀ l : List (List Int), (l.flatMap fun r => [r ++ [-1], r ++ [0], r ++ [1]]).length = 3 * l.length := fun l => by
      induction l with
      | nil => rfl
      | cons x l ih => rw [List.flatMap_cons, List.length_append, ih]; simp only [List.length_cons, List.length_nil]; omega
    show ((allRows n).flatMap _).length = _
    rw [this, rows_len n, Nat.pow_succ]; omega
def spRows : Sp := fun vs H Q _ => ∃ n : Nat, vs = [.int (n : Int)] ∧ n ≤ 6 ∧ ∀ (H' : Hp) (r : Addr) (us : List V), Same H H' → H' r = some (.lst us) → RowsT H' us (allRows n) → Q (.ref r) H'
theorem dn_rows (B : Bts mg) (F : Df K mg "_law_rows" s__law_rows P__law_rows) : Dn P w K mg base 1 "_law_rows" spRows := by
  refine F.ok sc__law_rows (fun vs H Q E h => ?_) (fun f cdv A outer s H vs Q E hr h => ?_)
  · obtain ⟨n, rfl, _⟩ := h; rfl
  obtain ⟨n, rfl, hn, q⟩ := h
  refine ⟨_, (pss_cons
        (ps_set (i := 1) sc__law_rows.nd rfl (.inl rfl) (pe_lst (pa_cons (pe_tup pa_nil) pa_nil)))
        (pss_cons
        (ps_for PassesOwn.never rfl (pi_range1 rfl B.range_ (pa_cons (pv 0) pa_nil)) (pg_name (i := 2) sc__law_rows.nd rfl (.inl rfl)) (pss_cons
          (ps_set (i := 3) sc__law_rows.nd rfl (.inl rfl) (pe_lst pa_nil))
          (pss_cons
          (ps_for PassesOwn.never rfl (pi_list (pv 1)) (pg_name (i := 4) sc__law_rows.nd rfl (.inl rfl)) (pss_one
            (ps_for PassesOwn.never rfl (pi_list (pe_lst (pa_cons pe_int (pa_cons pe_int (pa_cons pe_int pa_nil))))) (pg_name (i := 5) sc__law_rows.nd rfl (.inl rfl)) (pss_one
              (ps_expr (pe_bm PySem.F.plainAttrs_list PySem.F.slot_list_append PySem.F.type_list_append mt_append (pv 3) (pa_cons (pe_op op_catA (pv 4) (pe_tup (pa_cons (pe_op op_sub (pv 5) pe_int) pa_nil))) pa_nil)))))))
          (pss_one
          (ps_set (i := 1) sc__law_rows.nd rfl (.inl rfl) (pe_callTy call_list_of rfl B.list_ boot_list (pa_cons (pv 3) pa_nil)))))))
        (pss_one
        (ps_ret (pv 1))))), ?_⟩
  have p6 : ∀ k, k ≤ 6 → 3 ^ k ≤ 729 := fun k hk => Nat.pow_le_pow_right (by decide : 3 > 0) hk
  refine ⟨small (by show 0 ≤ 100000; decide), fun p1 n1 => ?_⟩
  have g1 := same_new n1 (.tup [])
  refine ⟨small (by show 1 ≤ 100000; decide), fun p2 n2 => ?_⟩
  have g2 := same_new n2 (.lst [.ref p1])
  refine ⟨_, rfl, _, rfl, by omega, by omega, ?_⟩
  refine for_range (lo := 0) (n := ((n : Nat) : Int).toNat) (fun i σ H' => ∃ (r : Addr) (us : List V) (s2 s3 s4 s5 : Option V), σ = [some (.int (n : Int)), some (.ref r), s2, s3, s4, s5] ∧ Same H H' ∧ H' r = some (.lst us) ∧ RowsT H' us (allRows i))
    ⟨p2, _, _, _, _, _, rfl, g1.trans g2, upd_same, .cons ⟨p1, rfl, g2 _ _ upd_same⟩ .nil⟩ ?_ ?_
  · rintro i σ H1 hi ⟨r, us, s2, s3, s4, s5, rfl, g, er, hp⟩
    have hi' : i < n := hi
    have lus : us.length = 3 ^ i := by rw [Paired.length hp, rows_len]
    have l1 := p6 i (by omega)
    have l2 := p6 (i + 1) (by omega)
    rw [Nat.pow_succ] at l2
    refine ⟨small (by show 0 ≤ 100000; decide), fun D nD => ?_⟩
    have gD := same_new nD (.lst [])
    have nD0 : H D = none := g.free nD
    refine ⟨_, rfl, r, rfl, ⟨_, SqL.of (gD _ _ er)⟩, ?_⟩
    refine for_list (a := r) (xs := us) (fun j σ H' => ∃ (ws : List V) (s4 s5 : Option V), σ = [some (.int (n : Int)), some (.ref r), some (.int (0 + i)), some (.ref D), s4, s5] ∧ Same H1 H' ∧ H' D = some (.lst ws) ∧ RowsT H' ws (((allRows i).take j).flatMap ext3) ∧ ws.length = 3 * j)
      ⟨[], _, _, rfl, gD, upd_same, .nil, rfl⟩ (fun j σ H' _ ⟨_, _, _, _, g, _⟩ => SqL.of (g _ _ er)) ?_ ?_
    · rintro j u σ H2 hj ⟨ws, s4, s5, rfl, g2, e2, hw, lw⟩
      have jl : j < us.length := (List.getElem?_eq_some_iff.mp hj).1
      obtain ⟨rs, hrs, p, rfl, hpt⟩ := Paired.at hp hj
      have hpt2 := g2 _ _ hpt
      refine ⟨small (by show 3 ≤ 100000; decide), fun pL nL => ?_⟩
      have gL := same_new nL (.lst [.int 0, .int 1, .int 2])
      have hDL : D ≠ pL := fun e => by subst e; exact ne_of_none e2 nL rfl
      have nL1 : H1 pL = none := g2.free nL
      refine ⟨pL, rfl, ⟨_, SqL.of upd_same⟩, ?_⟩
      refine for_list (a := pL) (xs := [.int 0, .int 1, .int 2]) (fun k σ H' => ∃ (ws' : List V) (s5 : Option V), σ = [some (.int (n : Int)), some (.ref r), some (.int (0 + i)), some (.ref D), some (.ref p), s5] ∧ Same H1 H' ∧ H' pL = some (.lst [.int 0, .int 1, .int 2]) ∧ H' D = some (.lst ws') ∧
          RowsT H' ws' ((((allRows i).take j).flatMap ext3) ++ (ext3 rs).take k) ∧ ws'.length = 3 * j + k)
        ⟨ws, _, rfl, g2.trans gL, upd_same, gL _ _ e2, by rw [List.take_zero, List.append_nil]; exact hw.keep fun p xs e => gL _ _ e, by omega⟩ (fun k σ H' _ ⟨_, _, _, _, h, _⟩ => SqL.of h) ?_ ?_
      · rintro k y σ H3 hk ⟨ws', s5, rfl, g3, eL, e3, hw3, lw3⟩
        have kl : k < 3 := (List.getElem?_eq_some_iff.mp hk).1
        have : ∃ s : Int, y = .int s ∧ (ext3 rs).take (k + 1) = (ext3 rs).take k ++ [rs ++ [s - 1]] := by
          have : k = 0 ∨ k = 1 ∨ k = 2 := by omega
          rcases this with z | z | z
          · subst z; exact ⟨0, (Option.some.inj hk).symm, rfl⟩
          · subst z; exact ⟨1, (Option.some.inj hk).symm, rfl⟩
          · subst z; exact ⟨2, (Option.some.inj hk).symm, rfl⟩
        obtain ⟨s, rfl, hs⟩ := this
        have hpt3 := g3 _ _ hpt
        refine ⟨_, rfl, .inl ⟨rfl, _, SqL.of e3⟩, _, rfl, _, rfl, _, _, rfl, rfl, small (by show 1 ≤ 100000; decide), fun pt nt => ?_⟩
        have gt := same_new nt (.tup [.int (s - 1)])
        have rl : rs.length ≤ 10 := by
          have := ((mem_allRows i rs).mp (List.mem_of_getElem? hrs)).1
          omega
        have fin : ∀ (z : Addr) (H' : Hp), Same H3 H' → H' z = some (.tup ((rs ++ [s - 1]).map V.int)) → ∃ l xs y, V.ref D = V.ref l ∧ [V.ref z] = [y] ∧ H' l = some (.lst xs) ∧ xs.length < sizeLine ∧
            ∃ (ws'' : List V) (s5' : Option V), [some (V.int (n : Int)), some (V.ref r), some (V.int (0 + i)), some (V.ref D), some (V.ref p), some (V.int s)] = [some (V.int (n : Int)), some (V.ref r), some (V.int (0 + i)), some (V.ref D), some (V.ref p), s5'] ∧ Same H1 (upd H' l (.lst (xs ++ [y]))) ∧
              upd H' l (.lst (xs ++ [y])) pL = some (.lst [.int 0, .int 1, .int 2]) ∧ upd H' l (.lst (xs ++ [y])) D = some (.lst ws'') ∧ RowsT (upd H' l (.lst (xs ++ [y]))) ws'' ((((allRows i).take j).flatMap ext3) ++ (ext3 rs).take (k + 1)) ∧ ws''.length = 3 * j + (k + 1) := fun z H' gz hz => by
          have e4 := gz _ _ e3
          have nD1 : H1 D = none := nD
          refine ⟨D, ws', _, rfl, rfl, e4, smallLt (by omega), ws' ++ [.ref z], _, rfl, (g3.trans gz).later nD1, by rw [upd_ne hDL.symm]; exact gz _ _ eL, upd_same, ?_, by rw [List.length_append, lw3]; rfl⟩
          rw [hs, ← List.append_assoc]
          exact (hw3.keep fun p xs e => upd_tup e4 (gz _ _ e)).snoc ⟨z, rfl, upd_tup e4 hz⟩
        refine ⟨p, pt, _, _, rfl, rfl, SqT.of (gt _ _ hpt3), SqT.of upd_same, small (by rw [List.length_map]; show rs.length + 1 ≤ 100000; omega), fun e => ?_, (fun _ e => nomatch e), fun _ _ pc nc => ?_⟩
        · have : rs = [] := List.map_eq_nil_iff.mp e
          subst this
          exact fin pt _ gt upd_same
        · exact fin pc _ (gt.trans (same_new nc _)) (by rw [upd_same, List.map_append]; rfl)
      · rintro σ H3 ⟨ws', s5, rfl, g3, eL, e3, hw3, lw3⟩
        refine ⟨ws', _, _, rfl, g3, e3, ?_, by rw [lw3]; show 3 * j + 3 = _; omega⟩
        have et : (allRows i).take (j + 1) = (allRows i).take j ++ [rs] := by rw [List.take_add_one, hrs]; rfl
        have hw4 : RowsT H3 ws' (((allRows i).take j).flatMap ext3 ++ ext3 rs) := hw3
        rw [et, List.flatMap_append]
        simpa using hw4
    · rintro σ H2 ⟨ws, s4, s5, rfl, g2, e2, hw, lw⟩
      rw [Paired.length hp, List.take_length] at hw
      refine ⟨_, rfl, D, _, rfl, .inl (SqL.of e2), fun l nl => ?_⟩
      have gl := same_new nl (.lst ws)
      exact ⟨l, ws, _, _, _, _, rfl, g.trans (g2.trans gl), upd_same, hw.keep fun p xs e => gl _ _ e⟩
  · rintro σ H1 ⟨r, us, s2, s3, s4, s5, rfl, g, er, hp⟩
    exact ⟨_, rfl, q H1 r us g er hp⟩

theorem catA_ok {H : Hp} {Q : VK} {a b : Addr} {xs ys : List V} (ha : H a = some (.tup xs)) (hb : H b = some (.tup ys)) (hz : xs.length + ys.length ≤ 100000)
    (q : ∀ (z : Addr) (H' : Hp), Same H H' → H' z = some (.tup (xs ++ ys)) → Q (.ref z) H') : rCatA K (.ref a) (.ref b) H Q := by
  refine ⟨a, b, xs, ys, rfl, rfl, SqT.of ha, SqT.of hb, small hz, fun e => ?_, fun _ e => ?_, fun _ _ p n => ?_⟩
  · exact q b H (Same.refl _) (by rw [e]; exact hb)
  · exact q a H (Same.refl _) (by rw [e, List.append_nil]; exact ha)
  · exact q p _ (same_new n _) upd_same
theorem lc_keysT {d : Addr} {o : Obj} {kvs : List (List Key × V)} {g : TG} {tt : TT} {te : TE} {vs : List Nat} {σ : L2.St} {H1 : Hp} {D : Addr} {Qd : Hp → Prop} (Pv : Nat → Hp → Prop) (h0 : Pv 0 (upd H1 D (.lst []))) (hl : ∀ i H, i ≤ kvs.length → Pv i H → H d = some (.frz o (.dT kvs)))
    (hs : ∀ i k v q H, kvs[i]? = some (k, v) → H q = some (.tup (k.map kV)) → Pv i H → g (.ref q) (wipe σ vs) H fun σ2 H2 => wipe σ2 vs = wipe σ vs ∧ tt σ2 H2 fun b H3 =>
      if b = true then te σ2 H3 fun y H4 => ∃ acc, H4 D = some (.lst acc) ∧ acc.length < sizeLine ∧ Pv (i + 1) (upd H4 D (.lst (acc ++ [y]))) else Pv (i + 1) H3) (hd : ∀ H, Pv kvs.length H → Qd H) :
    ∃ W : Nat → Nat → Hp → Prop, (∃ m, W 0 m (upd H1 D (.lst []))) ∧ ∀ i m H, W i m H →
      ((Itkt d o kvs).stop i H ∧ Qd H) ∨ ((Itkt d o kvs).go i H ∧ ∃ Nx : Hp → Prop, (∀ H', Nx H' → ∃ m', m' < m ∧ W (i + 1) m' H') ∧ ∀ x H', (Itkt d o kvs).yld i H x H' → g x (wipe σ vs) H' fun σ2 H2 => wipe σ2 vs = wipe σ vs ∧ tt σ2 H2 fun b H3 =>
        if b = true then te σ2 H3 fun y H4 => ∃ acc, H4 D = some (.lst acc) ∧ acc.length < sizeLine ∧ Nx (upd H4 D (.lst (acc ++ [y]))) else Nx H3) := by
  refine ⟨fun i m H => m = kvs.length - i ∧ i ≤ kvs.length ∧ Pv i H, ⟨kvs.length, by simp, Nat.zero_le _, h0⟩, ?_⟩
  rintro i m H ⟨rfl, hi, p⟩
  have q := hl i H hi p
  by_cases hlt : i < kvs.length
  · refine .inr ⟨⟨q, hlt⟩, Pv (i + 1), fun H' p' => ⟨kvs.length - (i + 1), by omega, rfl, hlt, p'⟩, fun x H' y => ?_⟩
    obtain ⟨e, k, v, b, h1, h2, h3⟩ := y
    subst e h2
    exact hs i k v b _ h1 h3 p
  · have e : i = kvs.length := by omega
    subst e
    exact .inl ⟨⟨q, Nat.le_refl _⟩, hd H p⟩

/-! ### the table of sides -/
def keyR (rs : List Int) : List Key := rs.map Sum.inl
theorem keyR_inj {a b : List Int} (h : keyR a = keyR b) : a = b := by
  induction a generalizing b with
  | nil => cases b with
    | nil => rfl
    | cons y b => cases h
  | cons x a ih => cases b with
    | nil => cases h
    | cons y b =>
      simp only [keyR, List.map_cons, List.cons.injEq] at h
      obtain ⟨h1, h2⟩ := h
      injection h1 with h1
      rw [h1, ih h2]
theorem keyR_kV (rs : List Int) : (keyR rs).map kV = rs.map V.int := by
  unfold keyR
  rw [List.map_map]
  rfl
def sidesOf (t : Tr) (l : List (List Int)) : List (List Key × V) := l.map fun rs => (keyR rs, V.str (t.follow rs))
theorem sides_in {t : Tr} {rs : List Int} : ∀ {l : List (List Int)}, rs ∈ l → valV (sidesOf t l) (keyR rs) = some (.str (t.follow rs))
  | x :: l, h => by
    by_cases e : x = rs
    · subst e; exact valV_pos rfl
    · rw [show sidesOf t (x :: l) = (keyR x, V.str (t.follow x)) :: sidesOf t l from rfl, valV_neg (fun z => e (keyR_inj z))]
      exact sides_in ((List.mem_cons.mp h).resolve_left fun z => e z.symm)
theorem sides_out {t : Tr} {rs : List Int} : ∀ {l : List (List Int)}, rs ∉ l → valV (sidesOf t l) (keyR rs) = none
  | [], _ => rfl
  | x :: l, h => by
    rw [show sidesOf t (x :: l) = (keyR x, V.str (t.follow x)) :: sidesOf t l from rfl, valV_neg (fun z => h (by rw [keyR_inj z]; exact List.mem_cons_self ..))]
    exact sides_out fun z => h (List.mem_cons_of_mem _ z)
theorem sides_put {t : Tr} {rs : List Int} {l : List (List Int)} (h : rs ∉ l) : putK (sidesOf t l) (keyR rs) (.str (t.follow rs)) = sidesOf t (l ++ [rs]) := by
  unfold putK
  rw [valV_any, sides_out h]
  rw [if_neg (by simp)]
  unfold sidesOf
  rw [List.map_append]
  rfl
theorem rows_nodup : ∀ n : Nat, (allRows n).Nodup
  | 0 => by simp [allRows]
  | n + 1 => by
    have ih := rows_nodup n
    show ((allRows n).flatMap fun r => [r ++ [-1], r ++ [0], r ++ [1]]).Nodup
    have key : ∀ l : List (List Int), l.Nodup → (l.flatMap fun r => [r ++ [(-1 : Int)], r ++ [0], r ++ [1]]).Nodup := fun l => by
      induction l with
      | nil => intro _; exact List.nodup_nil
      | cons x l ih =>
        intro h
        obtain ⟨h1, h2⟩ := List.nodup_cons.mp h
        rw [List.flatMap_cons]
        refine List.nodup_append.mpr ⟨by simp, ih h2, fun a ha b hb e => ?_⟩
        subst e
        obtain ⟨r, hr, hb⟩ := List.mem_flatMap.mp hb
        have : ∃ s s' : Int, a = x ++ [s] ∧ a = r ++ [s'] := by
          simp only [List.mem_cons, List.not_mem_nil, or_false] at ha hb
          rcases ha with ha | ha | ha <;> rcases hb with hb | hb | hb <;> exact ⟨_, _, ha, hb⟩
        obtain ⟨s, s', e1, e2⟩ := this
        have := List.append_inj' (e1.symm.trans e2) rfl
        exact h1 (this.1 ▸ hr)
    exact key _ ih
/-- the row with another sign at a place -/
def setR (rs : List Int) (g : Nat) : List Int := rs.take g ++ [-1] ++ rs.drop (g + 1)
theorem setR_len {rs : List Int} {g : Nat} (h : g < rs.length) : (setR rs g).length = rs.length := by
  unfold setR
  simp only [List.length_append, List.length_take, List.length_drop, List.length_cons, List.length_nil]
  omega
theorem setR_get {rs : List Int} {g : Nat} (h : g < rs.length) (z : Int) (h0 : 0 ≤ z) : Tr.sgn (setR rs g) z = if z = (g : Int) then -1 else Tr.sgn rs z := by
  unfold Tr.sgn setR
  rw [List.getD_eq_getElem?_getD, List.getD_eq_getElem?_getD]
  by_cases e : z = (g : Int)
  · rw [if_pos e]
    subst e
    rw [Int.toNat_natCast, List.append_assoc, List.getElem?_append_right (by rw [List.length_take]; omega), List.length_take]
    rw [show g - min g rs.length = 0 by omega]
    rfl
  · rw [if_neg e]
    congr 1
    by_cases l : z.toNat < g
    · rw [List.append_assoc, List.getElem?_append_left (by rw [List.length_take]; omega), List.getElem?_take, if_pos l]
    · rw [List.getElem?_append_right (by simp only [List.length_append, List.length_take, List.length_cons, List.length_nil]; omega), List.getElem?_drop]
      congr 1
      simp only [List.length_append, List.length_take, List.length_cons, List.length_nil]
      omega
/-- the fields that change the side -/
def NeedsR (t : Tr) (f : Int) (n g : Nat) : Prop := ∃ rs ∈ rowsOf f n, t.follow rs ≠ t.follow (setR rs g)
theorem setR_in {f : Int} {n g : Nat} {rs : List Int} (f0 : 0 ≤ f) (hg : g < n) (h : rs ∈ rowsOf f n) : setR rs g ∈ rowsOf f n := by
  obtain ⟨h1, h2⟩ := List.mem_filter.mp h
  obtain ⟨l, s⟩ := (mem_allRows n rs).mp h1
  refine List.mem_filter.mpr ⟨(mem_allRows n _).mpr ⟨by rw [setR_len (by omega)]; exact l, fun z hz => ?_⟩, ?_⟩
  · unfold setR at hz
    simp only [List.mem_append, List.mem_singleton] at hz
    rcases hz with (hz | hz) | hz
    · exact s z (List.mem_of_mem_take hz)
    · exact .inl hz
    · exact s z (List.mem_of_mem_drop hz)
  · rw [setR_get (by omega) f f0]
    by_cases e : f = (g : Int)
    · rw [if_pos e]; rfl
    · rw [if_neg e]; exact h2
theorem needs_iff {t : Tr} {f : Int} {n g : Nat} (hf : 0 ≤ f ∧ f < (n : Int)) (hb : t.Below (n : Int)) (hg : g < n) : (g : Int) ∈ (least f n t).fields ↔ NeedsR t f n g := by
  constructor
  · intro h
    refine Classical.byContradiction fun no => ?_
    have no : ∀ rs ∈ rowsOf f n, t.follow rs = t.follow (setR rs g) := fun rs hrs => Classical.byContradiction fun e => no ⟨rs, hrs, e⟩
    have hfix : (t.fixed (g : Int) (-1)).Below (n : Int) := Tr.below_of fun z hz => Tr.below_mem hb z (Tr.fixed_fields _ _ t z hz).1
    have al : least f n t = least f n (t.fixed (g : Int) (-1)) := by
      refine of_decide_eq_true ((least_iff hf hb hfix).trans (List.all_eq_true.mpr fun rs hrs => decide_eq_true ?_))
      obtain ⟨l, s⟩ := (mem_allRows n rs).mp (List.mem_filter.mp hrs).1
      rw [no rs hrs, Tr.follow_fol, Tr.follow_fol, Tr.fixed_fol]
      refine Tr.fol_eq fun z hz => ?_
      rw [setR_get (by omega) z (Tr.below_mem hb z hz).1]
      rfl
    rw [al] at h
    have := Tr.lio_fields f (ordF f n) _ (fun z hz => (mem_ordF hf).mpr (Tr.below_mem hfix z hz)) _ h
    exact (Tr.fixed_fields _ _ t _ this).2 rfl
  · rintro ⟨rs, hrs, ne⟩
    refine Classical.byContradiction fun no => ne ?_
    have h2 := setR_in hf.1 hg hrs
    obtain ⟨l, s⟩ := (mem_allRows n rs).mp (List.mem_filter.mp hrs).1
    rw [← least_follow hrs, ← least_follow h2, Tr.follow_fol, Tr.follow_fol]
    refine Tr.fol_eq fun z hz => ?_
    have hbl := (least_props_b hf hb)
    rw [setR_get (by omega) z (Tr.below_mem hbl z hz).1, if_neg (fun e : z = (g : Int) => no (by rw [← e]; exact hz))]

theorem sides_get {H : Hp} {d q : Addr} {rs : List Int} {l : List (List Int)} {t : Tr} (e : H d = some (.dT (sidesOf t l))) (hq : H q = some (.tup (rs.map V.int))) (h : rs ∈ l) : DGet H d (.ref q) (some (.str (t.follow rs))) := by
  rw [← sides_in h]
  exact DGet.t e (by rw [keyR_kV]; exact hq)
/-- the fields that change the side, in a tuple -/
def spNeeded : Sp := fun vs H Q _ => ∃ (v : V) (t : Tr) (f : Int) (n : Nat), vs = [v, .int f, .int (n : Int)] ∧ TreeAt H v t ∧ t.depth < 30 ∧ t.asks ≤ 1000 ∧ t.Two ∧ 0 ≤ f ∧ f < (n : Int) ∧ n ≤ 6 ∧ t.Below (n : Int) ∧
  ∀ (p : Addr) (H' : Hp) (fs : List Int), Same H H' → fs.Pairwise (· < ·) → (∀ k, k ∈ fs ↔ k ∈ (least f n t).fields) → H' p = some (.tup (fs.map V.int)) → Q (.ref p) H'
theorem dn_needed (B : Bts mg) (F : Df K mg "needed_fields" s_needed_fields P_needed_fields) (D_asked : Dn P w K mg base 61 "asked" spAsked) (D_least_tree : Dn P w K mg base 62 "least_tree" spLeast) : Dn P w K mg base 63 "needed_fields" spNeeded := by
  refine F.ok sc_needed_fields (fun vs H Q E h => ?_) (fun fa cdv A outer s H vs Q E hr h => ?_)
  · obtain ⟨v, t, f, n, rfl, _⟩ := h; rfl
  obtain ⟨v, t, f, n, rfl, ht, hd, hz, h2, f0, f1, hn, hb, q⟩ := h
  refine ⟨_, (pss_one
        (ps_ret (My.pe_callD D_asked (hr.mono (by omega)) rfl (pa_cons (My.pe_callD D_least_tree (hr.mono (by omega)) rfl (pa_cons (pv 0) (pa_cons (pv 1) (pa_cons (pv 2) pa_nil)))) pa_nil)))), ?_⟩
  have pr := least_props ⟨f0, f1⟩ hb h2
  have az := Tr.asks_small (t := least f n t) (by omega)
  refine ⟨_, rfl, _, rfl, _, rfl, v, t, f, n, rfl, ht, hd, hz, h2, f0, f1, by omega, hb, fun H1 v1 g1 h1 => ?_⟩
  refine ⟨v1, least f n t, rfl, h1, by omega, by omega, pr.1.mono (by omega), fun p H2 fs g2 pw m e2 => ?_⟩
  exact q p H2 fs (g1.trans g2) pw m e2

/-- the law's own way to them -/
def spLNeed : Sp := fun vs H Q _ => ∃ (v : V) (t : Tr) (f : Int) (n : Nat), vs = [v, .int f, .int (n : Int)] ∧ TreeAt H v t ∧ t.depth < 60 ∧ 0 ≤ f ∧ f < (n : Int) ∧ n ≤ 6 ∧ t.Below (n : Int) ∧
  ∀ (p : Addr) (H' : Hp) (fs : List Int), Same H H' → fs.Pairwise (· < ·) → (∀ k, k ∈ fs ↔ ∃ g : Nat, k = (g : Int) ∧ g < n ∧ NeedsR t f n g) → H' p = some (.lst (fs.map V.int)) → Q (.ref p) H'
theorem dn_lneed (B : Bts mg) (F : Df K mg "_law_needed" s__law_needed P__law_needed) (D__law_rows : Dn P w K mg base 1 "_law_rows" spRows) (D__law_follow : Dn P w K mg base 1 "_law_follow" (spLFollow K)) : Dn P w K mg base 2 "_law_needed" spLNeed := by
  refine F.ok sc__law_needed (fun vs H Q E h => ?_) (fun fa cdv A outer s H vs Q E hr h => ?_)
  · obtain ⟨v, t, f, n, rfl, _⟩ := h; rfl
  obtain ⟨v, t, f, n, rfl, ht, hd, f0, f1, hn, hb, q⟩ := h
  refine ⟨_, (pss_cons
        (ps_set (i := 3) sc__law_needed.nd rfl (.inl rfl) pe_dnewT)
        (pss_cons
        (ps_for PassesOwn.never rfl (pi_list (My.pe_callD D__law_rows (hr.mono (by omega)) rfl (pa_cons (pv 2) pa_nil))) (pg_name (i := 4) sc__law_needed.nd rfl (.inl rfl)) (pss_one
          (ps_if (pt_cmpR op_ne (pe_ix ix_tup (pv 4) (pv 1) (fun _ _ => rfl)) pe_int (nomark _)) (pss_one
            (ps_dput (hu_of hr) (pv 3) (pv 4) (My.pe_callD D__law_follow (hr.mono (by omega)) rfl (pa_cons (pv 0) (pa_cons (pv 4) pa_nil))) rfl)) pss_nil)))
        (pss_cons
        (ps_lock (ps_setLc (i := 5) (own := [("_law_row", 4)]) (g := gName 4) (tt := tYes) rfl sc__law_needed.nd rfl rfl (sw_true rfl rfl rfl (by decide +kernel)) (pi_keys (pv 3)) (blkOk_by (own := [("_law_row", 4)]) (N := N__law_needed) (sc := defScope s__law_needed) (by decide +kernel)) (fun _ _ _ _ _ => pg_name (i := 4) sc__law_needed.nd rfl (.inl rfl)) (fun _ _ _ _ _ => pts_nil) (fun _ _ _ _ _ => (pv 4))))
        (pss_cons
        (ps_set (i := 6) sc__law_needed.nd rfl (.inl rfl) (pe_lst pa_nil))
        (pss_cons
        (ps_for PassesOwn.never rfl (pi_range1 rfl B.range_ (pa_cons (pv 2) pa_nil)) (pg_name (i := 7) sc__law_needed.nd rfl (.inl rfl)) (pss_one
          (ps_for PassesOwn.never rfl (pi_list (pv 5)) (pg_name (i := 4) sc__law_needed.nd rfl (.inl rfl)) (pss_one
            (ps_if (pt_cmpR op_ne (pe_dget (hu_of hr) (pv 3) (pv 4) (fun _ _ => rfl)) (pe_dget (hu_of hr) (pv 3) (pe_op op_catA (pe_op op_catA (pe_slice sl_tupA (pv 4) po_none (po_some (pv 7))) (pe_tup (pa_cons (pe_op op_sub pe_int pe_int) pa_nil))) (pe_slice sl_tupA (pv 4) (po_some (pe_op op_add (pv 7) pe_int)) po_none)) (fun _ _ => rfl)) (nomark _)) (pss_cons
              (ps_expr (pe_bm PySem.F.plainAttrs_list PySem.F.slot_list_append PySem.F.type_list_append mt_append (pv 6) (pa_cons (pv 7) pa_nil)))
              (pss_one
              ps_break)) pss_nil)))))
        (pss_one
        (ps_ret (pv 6)))))))), ?_⟩
  refine fun d nd => ?_
  have gd := same_new nd (.dT [])
  refine ⟨_, rfl, n, rfl, hn, fun H2 r us g2 er hp => ?_⟩
  have g02 := gd.trans g2
  have e2 : H2 d = some (.dT []) := g2 _ _ upd_same
  have hul : us.length = 3 ^ n := by rw [Paired.length hp, rows_len]
  have h729 : 3 ^ n ≤ 3 ^ 6 := Nat.pow_le_pow_right (by decide) hn
  have h7 : 3 ^ 6 = 729 := by decide
  refine ⟨r, rfl, ⟨_, SqL.of er⟩, ?_⟩
  refine for_list (a := r) (xs := us) (fun i σ H' => (∃ s4, σ = [some v, some (.int f), some (.int (n : Int)), some (.ref d), s4, none, none, none]) ∧ Same H H' ∧ (H' r = some (.lst us)) ∧ (∀ p xs, H2 p = some (.tup xs) → H' p = some (.tup xs)) ∧ H' d = some (.dT (sidesOf t (((allRows n).take i).filter fun rs => !decide (Tr.sgn rs f = 0)))))
    ⟨⟨_, rfl⟩, g02, er, fun _ _ h => h, e2⟩ (fun i σ H' _ ⟨_, _, e, _⟩ => SqL.of e) ?_ ?_
  · rintro i u σ H' hu ⟨⟨s4, rfl⟩, g, e, kt, ed⟩
    obtain ⟨rs, hrs, p, rfl, hpt⟩ := Paired.at hp hu
    obtain ⟨l1, l2⟩ := (mem_allRows n rs).mp (List.mem_of_getElem? hrs)
    have hat := sgn_at (rs := rs) f0 (by rw [l1]; exact f1)
    have et : (allRows n).take (i + 1) = (allRows n).take i ++ [rs] := by rw [List.take_add_one, hrs]; rfl
    refine ⟨_, rfl, _, rfl, p, _, _, _, rfl, rfl, SqT.of (kt _ _ hpt), hat, rfl, _, rfl, ?_⟩
    by_cases c : Tr.sgn rs f = 0
    · rw [show decide (V.int (Tr.sgn rs f) = V.int 0) = true from decide_eq_true (by rw [c])]
      refine iteF ?_
      refine ⟨⟨_, rfl⟩, g, e, kt, ?_⟩
      rw [et, List.filter_append, List.filter_cons_of_neg (by simp [c])]
      simpa using ed
    · rw [show decide (V.int (Tr.sgn rs f) = V.int 0) = false from decide_eq_false (fun z => c (by injection z))]
      refine iteT ?_
      refine ⟨_, rfl, _, rfl, v, p, t, rs, rfl, ht.same g, SqT.of (kt _ _ hpt), l2, by rw [l1]; exact hb, hd, ?_⟩
      have nin : rs ∉ ((allRows n).take i).filter fun rs => !decide (Tr.sgn rs f = 0) := fun z => by
        have := (List.nodup_append.mp (et ▸ (rows_nodup n).sublist (List.take_sublist (i + 1) _) : ((allRows n).take i ++ [rs]).Nodup)).2.2 rs (List.mem_filter.mp z).1 rs (List.mem_singleton.mpr rfl)
        exact this rfl
      have ll : (((allRows n).take i).filter fun rs => !decide (Tr.sgn rs f = 0)).length ≤ 729 := by
        have h1 := List.length_filter_le (fun rs => !decide (Tr.sgn rs f = 0)) ((allRows n).take i)
        have h2 : ((allRows n).take i).length ≤ (allRows n).length := by rw [List.length_take]; omega
        rw [rows_len] at h2
        omega
      refine ⟨_, rfl, _, rfl, d, _, rfl, DPut.t (k := keyR rs) ed (by rw [keyR_kV]; exact kt _ _ hpt) (smallLt (by unfold sidesOf; rw [List.length_map]; omega)), ?_⟩
      rw [sides_put nin]
      refine ⟨⟨_, rfl⟩, g.later nd, by rw [upd_ne (ne_of e ed (by intro z; cases z))]; exact e, fun p' xs h' => by rw [upd_ne (ne_of (kt _ _ h') ed (by intro z; cases z))]; exact kt _ _ h', ?_⟩
      rw [upd_same, et, List.filter_append, List.filter_cons_of_pos (by simp [c])]
      rfl
  · rintro σ H' ⟨⟨s4, rfl⟩, g, e, kt, ed⟩
    rw [hul, ← rows_len, List.take_length] at ed
    have ed : H' d = some (.dT (sidesOf t (rowsOf f n))) := ed
    have rl : (rowsOf f n).length ≤ 729 := by
      have h1 := List.length_filter_le (fun rs => !decide (Tr.sgn rs f = 0)) (allRows n)
      rw [rows_len] at h1
      exact Nat.le_trans h1 (by omega)
    refine ⟨d, _, ed, trivial, fun od => ?_⟩
    refine ⟨_, rfl, d, od, rfl, .inr ⟨_, upd_same, fun D nD => ?_⟩⟩
    refine lc_keysT (fun i H'' => ∃ ws, H'' D = some (.lst ws) ∧ ws.length = i ∧ RowsT H'' ws ((rowsOf f n).take i) ∧ Same (upd H' d (.frz od (.dT (sidesOf t (rowsOf f n))))) H'') ⟨[], upd_same, rfl, .nil, same_new nD _⟩ (fun i H'' _ ⟨_, _, _, _, g⟩ => g _ _ upd_same) ?_ ?_
    · rintro i k v' q' H'' hk hq ⟨ws, eD, lw, hw, gw⟩
      refine ⟨rfl, ?_⟩
      have : ∃ rs, (rowsOf f n)[i]? = some rs ∧ k = keyR rs := by
        unfold sidesOf at hk
        rw [List.getElem?_map] at hk
        obtain ⟨rs, h1, h2⟩ := Option.map_eq_some_iff.mp hk
        exact ⟨rs, h1, by injection h2 with h2; exact h2.symm⟩
      obtain ⟨rs, hrs, rfl⟩ := this
      rw [keyR_kV] at hq
      have il : i < (rowsOf f n).length := (List.getElem?_eq_some_iff.mp hrs).1
      refine ⟨_, rfl, _, eD, smallLt (by omega), _, upd_same, by simp [lw], ?_, gw.later nD⟩
      have et : (rowsOf f n).take (i + 1) = (rowsOf f n).take i ++ [rs] := by rw [List.take_add_one, hrs]; rfl
      rw [et]
      exact Paired.app (hw.keep fun p xs e => upd_tup eD e) (.cons ⟨q', rfl, upd_tup eD hq⟩ .nil)
    · rintro H'' ⟨ws, eD, lw, hw, gw⟩
      have lw : ws.length = (rowsOf f n).length := by rw [lw]; unfold sidesOf; rw [List.length_map]
      rw [show (sidesOf t (rowsOf f n)).length = (rowsOf f n).length from by unfold sidesOf; rw [List.length_map], List.take_length] at hw
      have efz := gw _ _ upd_same
      refine ⟨efz, ?_⟩
      have hDd : D ≠ d := ne_of eD efz (by intro z; cases z)
      have G3 : Same H (upd H'' d (.dT (sidesOf t (rowsOf f n)))) := fun b u hb' => by
        have : b ≠ d := ne_of_none hb' nd
        rw [upd_ne this]
        exact gw b u (by rw [upd_ne this]; exact g b u hb')
      have eD3 : upd H'' d (.dT (sidesOf t (rowsOf f n))) D = some (.lst ws) := by rw [upd_ne hDd]; exact eD
      have hw3 : RowsT (upd H'' d (.dT (sidesOf t (rowsOf f n)))) ws (rowsOf f n) := hw.keep fun p xs e => by rw [upd_ne (ne_of e efz (by intro z; cases z))]; exact e
      have ed3 : upd H'' d (.dT (sidesOf t (rowsOf f n))) d = some (.dT (sidesOf t (rowsOf f n))) := upd_same
      generalize upd H'' d (.dT (sidesOf t (rowsOf f n))) = H3 at G3 eD3 hw3 ed3
      clear hw lw gw efz hDd eD nD g e ed hp er e2 g2 gd kt
      refine ⟨small (by decide), fun N nN => ?_⟩
      have nN0 : H N = none := G3.free nN
      have hDN : D ≠ N := ne_of_none eD3 nN
      have hdN : d ≠ N := ne_of_none ed3 nN
      refine ⟨_, rfl, _, rfl, by omega, by omega, ?_⟩
      have rin : ∀ rs ∈ rowsOf f n, rs.length = n := fun rs hrs => ((mem_allRows n rs).mp (List.mem_filter.mp hrs).1).1
      refine for_range (lo := 0) (n := ((n : Nat) : Int).toNat) (fun g σ H' => (∃ s4 s7, σ = [some v, some (.int f), some (.int (n : Int)), some (.ref d), s4, some (.ref D), some (.ref N), s7]) ∧ Same (upd H3 N (.lst [])) (upd H' N (.lst [])) ∧
          ∃ fs : List Int, H' N = some (.lst (fs.map V.int)) ∧ fs.Pairwise (· < ·) ∧ fs.length ≤ g ∧ (∀ k ∈ fs, k < (g : Int)) ∧ ∀ k, k ∈ fs ↔ ∃ g' : Nat, k = (g' : Int) ∧ g' < g ∧ NeedsR t f n g')
        ⟨⟨_, _, rfl⟩, by rw [upd_upd]; exact Same.refl _, [], upd_same, .nil, Nat.le_refl _, (fun _ h => nomatch h), fun k => Iff.intro (fun h => nomatch h) (fun ⟨_, _, h, _⟩ => by omega)⟩ ?_ ?_
      · rintro g σ H' hg ⟨⟨s4, s7, rfl⟩, gN, fs, eN, pw, lf, lt, mm⟩
        have hg : g < n := hg
        rw [Int.zero_add]
        have keep : ∀ {H4 : Hp}, Same H' H4 → ∀ b u, b ≠ N → H3 b = some u → H4 b = some u := fun {H4} s b u nb h => by
          have := gN b u (by rw [upd_ne nb]; exact h)
          rw [upd_ne nb] at this
          exact s b u this
        have kT : ∀ {H4 : Hp}, Same H' H4 → ∀ p xs, H3 p = some (.tup xs) → H4 p = some (.tup xs) := fun {H4} s p xs h => keep s p _ (ne_of_none h nN) h
        refine ⟨_, rfl, D, rfl, ⟨_, SqL.of (keep (Same.refl _) D _ hDN eD3)⟩, ?_⟩
        refine for_list (a := D) (xs := ws) (fun j σ H4 => (∃ s4, σ = [some v, some (.int f), some (.int (n : Int)), some (.ref d), s4, some (.ref D), some (.ref N), some (.int (g : Int))]) ∧ Same H' H4 ∧ ∀ rs ∈ (rowsOf f n).take j, t.follow rs = t.follow (setR rs g))
          ⟨⟨_, rfl⟩, Same.refl _, fun _ h => by simp at h⟩ (fun j σ H4 _ ⟨_, s, _⟩ => SqL.of (keep s D _ hDN eD3)) ?_ ?_
        · rintro j u σ H4 hu ⟨⟨s4, rfl⟩, g4, h4⟩
          obtain ⟨rs, hrs, p, rfl, hpt⟩ := Paired.at hw3 hu
          have rm := List.mem_of_getElem? hrs
          have rl := rin rs rm
          have hp4 := kT g4 _ _ hpt
          have ed4 := keep g4 d _ hdN ed3
          refine ⟨_, rfl, _, rfl, d, _, rfl, sides_get ed4 hp4 rm, ?_⟩
          have esp : rs.map V.int = (rs.take g).map V.int ++ V.int rs[g] :: (rs.drop (g + 1)).map V.int := by
            rw [← List.map_cons, ← List.map_append, ← List.drop_eq_getElem_cons, List.take_append_drop]
          have ltk : ((rs.take g).map V.int).length = g := by rw [List.length_map, List.length_take]; omega
          have c1 : cutV (rs.map V.int) none (some (g : Int)) = (rs.take g).map V.int := by
            rw [esp]
            have := cutA ((rs.take g).map V.int) (.int rs[g]) ((rs.drop (g + 1)).map V.int)
            rw [ltk] at this
            exact this
          have c2 : cutV (rs.map V.int) (some ((g : Int) + 1)) none = (rs.drop (g + 1)).map V.int := by
            rw [esp]
            have := cutB ((rs.take g).map V.int) (.int rs[g]) ((rs.drop (g + 1)).map V.int)
            rw [ltk] at this
            exact this
          have full1 : ¬ (HT.sIx (rs.map V.int).length 0 none = 0 ∧ HT.sIx (rs.map V.int).length (rs.map V.int).length (some (g : Int)) = (rs.map V.int).length) := fun z => by
            have := z.2
            rw [HT.sIx_nat, List.length_map] at this
            omega
          have full2 : ¬ (HT.sIx (rs.map V.int).length 0 (some ((g : Int) + 1)) = 0 ∧ HT.sIx (rs.map V.int).length (rs.map V.int).length none = (rs.map V.int).length) := fun z => by
            have := z.1
            rw [show (g : Int) + 1 = ((g + 1 : Nat) : Int) by omega, HT.sIx_nat, List.length_map] at this
            omega
          have fin : ∀ (z : Addr) (H5 : Hp), Same H4 H5 → H5 z = some (.tup ((setR rs g).map V.int)) → DGet H5 d (.ref z) (some (.str (t.follow (setR rs g)))) := fun z H5 g5 hz => sides_get (g5 _ _ ed4) hz (setR_in f0 hg rm)
          refine ⟨_, rfl, _, rfl, _, rfl, _, rfl, p, _, rfl, SqT.of hp4, (fun z => absurd z full1), fun _ pa na => ?_⟩
          rw [c1]
          have ga := same_new na (.tup ((rs.take g).map V.int))
          refine ⟨_, _, rfl, rfl, small (by show 1 ≤ 100000; decide), fun pt nt => ?_⟩
          have gt := same_new nt (.tup [.int (0 - 1)])
          refine catA_ok (K := K) (a := pa) (b := pt) (gt _ _ upd_same) upd_same (by rw [ltk]; show g + 1 ≤ 100000; omega) fun z1 H5 g5 e5 => ?_
          have g45 := ga.trans (gt.trans g5)
          have hp5 := g45 _ _ hp4
          refine ⟨_, rfl, _, rfl, _, _, rfl, rfl, _, rfl, p, _, rfl, SqT.of hp5, (fun z => absurd z full2), fun _ pd npd => ?_⟩
          rw [c2]
          have gp := same_new npd (.tup ((rs.drop (g + 1)).map V.int))
          refine catA_ok (K := K) (a := z1) (b := pd) (gp _ _ e5) upd_same (by rw [List.length_append, ltk, List.length_map, List.length_drop]; show g + 1 + (rs.length - (g + 1)) ≤ 100000; omega) fun z2 H6 g6 e6 => ?_
          have g46 := g45.trans (gp.trans g6)
          refine ⟨d, _, rfl, fin z2 H6 g46 (by rw [e6]; unfold setR; rw [List.map_append, List.map_append]; rfl), rfl, _, rfl, ?_⟩
          by_cases e : t.follow rs = t.follow (setR rs g)
          · rw [e]
            refine iteNS rfl ?_
            refine ⟨⟨_, rfl⟩, g4.trans g46, fun rs' h' => ?_⟩
            rw [List.take_add_one, hrs] at h'
            rcases List.mem_append.mp h' with h' | h'
            · exact h4 rs' h'
            · have : rs' = rs := by simpa using h'
              rw [this]; exact e
          · rw [show decide (V.str (t.follow rs) = V.str (t.follow (setR rs g))) = false from decide_eq_false (fun z => e (by injection z))]
            refine iteT ?_
            have eN6 := g46 _ _ (g4 _ _ eN)
            have g06 := g4.trans g46
            refine ⟨_, rfl, .inl ⟨rfl, _, SqL.of eN6⟩, _, rfl, N, _, _, rfl, rfl, eN6, smallLt (by rw [List.length_map]; omega), ?_⟩
            refine ⟨⟨_, _, rfl⟩, ?_, fs ++ [(g : Int)], by rw [upd_same, List.map_append]; rfl, ?_, by rw [List.length_append]; show fs.length + 1 ≤ g + 1; omega, fun k hk => ?_, fun k => ?_⟩
            · rw [upd_upd]
              refine gN.trans fun b u hb' => ?_
              by_cases e : b = N
              · subst e; rw [upd_same] at hb' ⊢; exact hb'
              · rw [upd_ne e] at hb' ⊢; exact g06 b u hb'
            · exact List.pairwise_append.mpr ⟨pw, List.pairwise_singleton .., fun x hx y hy => by rw [List.mem_singleton.mp hy]; exact lt x hx⟩
            · rcases List.mem_append.mp hk with hk | hk
              · have := lt k hk; omega
              · rw [List.mem_singleton.mp hk]; omega
            · rw [List.mem_append, mm k, List.mem_singleton]
              constructor
              · rintro (⟨g', h1, h2, h3⟩ | h1)
                · exact ⟨g', h1, by omega, h3⟩
                · exact ⟨g, h1, by omega, rs, rm, e⟩
              · rintro ⟨g', h1, h2, h3⟩
                by_cases eg : g' = g
                · exact .inr (by rw [h1, eg])
                · exact .inl ⟨g', h1, by omega, h3⟩
        · rintro σ H4 ⟨⟨s4, rfl⟩, g4, h4⟩
          rw [Paired.length hw3, List.take_length] at h4
          refine ⟨⟨_, _, rfl⟩, gN.trans ?_, fs, g4 _ _ eN, pw, by omega, fun k hk => by have := lt k hk; omega, fun k => ?_⟩
          · intro b u hb'
            by_cases e : b = N
            · subst e; rw [upd_same] at hb' ⊢; exact hb'
            · rw [upd_ne e] at hb' ⊢; exact g4 b u hb'
          · rw [mm k]
            constructor
            · rintro ⟨g', h1, h2, h3⟩; exact ⟨g', h1, by omega, h3⟩
            · rintro ⟨g', h1, h2, h3⟩
              refine ⟨g', h1, ?_, h3⟩
              have : g' ≠ g := fun e => by
                subst e
                obtain ⟨rs, hrs, ne⟩ := h3
                exact ne (h4 rs hrs)
              omega
      · rintro σ H' ⟨⟨s4, s7, rfl⟩, gN, fs, eN, pw, lf, lt, mm⟩
        refine ⟨_, rfl, q N H' fs (fun b u hb' => ?_) pw mm eN⟩
        have nb : b ≠ N := ne_of_none hb' nN0
        have := gN b u (by rw [upd_ne nb]; exact G3 b u hb')
        rw [upd_ne nb] at this
        exact this

def sp_law (K : PySem.W.Frag) : Sp := fun vs H Q _ => ∃ (a : Addr) (ns : List Int), vs = [.ref a] ∧ SqL K H a (ns.map V.int) ∧ ns.length ≤ 63 ∧ ∀ H', Q (.bl true) H'
theorem ok_law {f : Addr} {fd : FuncData} (B : Bts mg) (F : Fun K "law" "law" s_law f fd) (D__law_tape : Dn P w K mg base 1 "_law_tape" (spTape K)) (D__law_take : Dn P w K mg base 1 "_law_take" spTake)
    (D__law_tree : Dn P w K mg base 6 "_law_tree" (spTree 4)) (D__law_padded : Dn P w K mg base 11 "_law_padded" (spPad 6))
    (D_needed_fields : Dn P w K mg base 63 "needed_fields" spNeeded) (D__law_is_ascending : Dn P w K mg base 2 "_law_is_ascending" spAsc) (D__law_needed : Dn P w K mg base 2 "_law_needed" spLNeed) : FnOk P w K mg base CX0 64 f fd P_law (sp_law K) := by
  refine F.ok sc_law (fun vs H Q E h => ?_) (fun cdv A outer s H vs Q E hr h => ?_)
  · obtain ⟨a, ns, rfl, _⟩ := h; rfl
  obtain ⟨a, ns, rfl, hS, h63, q⟩ := h
  refine ⟨_, (pss_cons
        (ps_set (i := 1) sc_law.nd rfl (.inl rfl) (My.pe_callD D__law_tape (hr.mono (by omega)) rfl (pa_cons (pv 0) (pa_cons pe_int pa_nil))))
        (pss_cons
        (ps_set (i := 2) sc_law.nd rfl (.inl rfl) (pe_op op_add pe_int (My.pe_callD D__law_take (hr.mono (by omega)) rfl (pa_cons (pv 1) (pa_cons pe_int pa_nil)))))
        (pss_cons
        (ps_if (pt_cmpR op_eq (My.pe_callD D__law_take (hr.mono (by omega)) rfl (pa_cons (pv 1) (pa_cons pe_int pa_nil))) pe_int (nomark _)) (pss_one
          (ps_set (i := 2) sc_law.nd rfl (.inl rfl) (pe_op op_add pe_int (pe_op op_fdivN (My.pe_callD D__law_take (hr.mono (by omega)) rfl (pa_cons (pv 1) (pa_cons pe_int pa_nil))) pe_int)))) pss_nil)
        (pss_cons
        (ps_set (i := 3) sc_law.nd rfl (.inl rfl) (My.pe_callD D__law_take (hr.mono (by omega)) rfl (pa_cons (pv 1) (pa_cons (pv 2) pa_nil))))
        (pss_cons
        (ps_set (i := 4) sc_law.nd rfl (.inl rfl) (My.pe_callD D__law_tree (hr.mono (by omega)) rfl (pa_cons (My.pe_callD D__law_tape (hr.mono (by omega)) rfl (pa_cons (pv 0) (pa_cons pe_int pa_nil))) (pa_cons (pv 2) (pa_cons pe_int pa_nil)))))
        (pss_cons
        (ps_if (pt_cmpR op_eq (My.pe_callD D__law_take (hr.mono (by omega)) rfl (pa_cons (pv 1) (pa_cons pe_int pa_nil))) pe_int (nomark _)) (pss_one
          (ps_set (i := 4) sc_law.nd rfl (.inl rfl) (My.pe_callD D__law_padded (hr.mono (by omega)) rfl (pa_cons (My.pe_callD D__law_tape (hr.mono (by omega)) rfl (pa_cons (pv 0) (pa_cons pe_int pa_nil))) (pa_cons (pv 4) (pa_cons (pv 3) (pa_cons (pe_lc (own := [("_law_g", 5)]) (g := gName 5) (tt := tYes) rfl sc_law.nd (pi_range1 rfl B.range_ (pa_cons (pv 2) pa_nil)) (blkOk_by (own := [("_law_g", 5)]) (N := N_law) (sc := defScope s_law) (by decide +kernel)) (fun _ _ _ _ _ => pg_name (i := 5) sc_law.nd rfl (.inl rfl)) (fun _ _ _ _ _ => pts_nil) (fun _ _ _ _ _ => pe_non)) (pa_cons pe_int pa_nil)))))))) pss_nil)
        (pss_cons
        (ps_for PassesOwn.never rfl (pi_list (pe_lst (pa_cons (pv 3) (pa_cons (pe_op op_modN (pe_callTy call_int1 rfl B.int_ boot_int (pa_cons (pe_op op_add (pv 3) pe_int) pa_nil)) (pv 2)) (pa_cons (pv 3) pa_nil))))) (pg_name (i := 6) sc_law.nd rfl (.inl rfl)) (pss_cons
          (ps_set (i := 7) sc_law.nd rfl (.inl rfl) (My.pe_callD D_needed_fields (hr.mono (by omega)) rfl (pa_cons (pv 4) (pa_cons (pv 6) (pa_cons (pv 2) pa_nil)))))
          (pss_one
          (ps_if (PW.pt (pw_or (pt_not (pt_val (My.pe_callD D__law_is_ascending (hr.mono (by omega)) rfl (pa_cons (pv 7) (pa_cons (pv 2) pa_nil))))) (pw_or1 (pt_cmpR (op_neD hr.units) (pe_callTy call_list_of rfl B.list_ boot_list (pa_cons (pv 7) pa_nil)) (My.pe_callD D__law_needed (hr.mono (by omega)) rfl (pa_cons (pv 4) (pa_cons (pv 6) (pa_cons (pv 2) pa_nil)))) (nomark _))))) (pss_one
            (ps_ret pe_bl)) pss_nil))))
        (pss_one
        (ps_ret pe_bl))))))))), ?_⟩
  refine ⟨_, rfl, a, ns, 0, rfl, hS, by decide, fun t c nt c0 => ?_⟩
  have T1 : Tape (upd H t (.lst [.int c, .int 0])) t := tape_new c0
  refine ⟨_, rfl, t, 4, rfl, T1, by decide, by decide, fun H2 d b2 T2 d0 d1 => ⟨_, _, rfl, rfl, ?_⟩⟩
  dsimp only [gName]
  refine st_split (t := tIfS _ _ _) (fun σ' H' => ∃ n : Nat, σ' = [some (.ref a), some (.ref t), some (.int (n : Int)), none, none, none, none, none] ∧ 1 ≤ n ∧ n ≤ 6 ∧ But t (upd H t (.lst [.int c, .int 0])) H' ∧ Tape H' t)
    (fun D' hD' => ?_) ?_
  · refine ⟨_, rfl, t, 8, rfl, T2, by decide, by decide, fun H3 r b3 T3 r0 r1 => ⟨rfl, _, rfl, ?_⟩⟩
    refine ite2 (fun c => ?_) (fun c => ?_)
    · refine ⟨_, rfl, t, 8, rfl, T3, by decide, by decide, fun H4 e b4 T4 e0 e1 => ?_⟩
      refine ⟨_, _, rfl, rfl, ⟨by decide, by decide⟩, ⟨_, _, rfl, rfl, ?_⟩⟩
      have e2 : e.fdiv 7 = e / 7 := Int.fdiv_eq_ediv_of_nonneg _ (by decide)
      rw [e2]
      exact hD' _ _ ⟨(5 + e / 7).toNat, by rw [Int.toNat_of_nonneg (by omega)]; rfl, by omega, by omega, b2.trans (b3.trans b4), T4⟩
    · exact hD' _ _ ⟨(1 + d).toNat, by rw [Int.toNat_of_nonneg (by omega)]; rfl, by omega, by omega, b2.trans b3, T3⟩
  clear T1 T2 b2 d0 d1 d H2
  rintro σ' H3 ⟨n, rfl, n1, n6, b3, T3⟩
  refine ⟨_, rfl, _, rfl, t, (n : Int), rfl, T3, by omega, by omega, fun H4 f b4 T4 f0 f1 => ?_⟩
  have S4 : Same H H4 := But.same nt (b3.trans b4)
  dsimp only [gName]
  refine ⟨_, rfl, a, ns, 1, rfl, S4.seq hS, by decide, fun ta ca na ca0 => ?_⟩
  refine ⟨_, rfl, ta, (n : Int), 3, rfl, tape_new ca0, by omega, by omega, by decide, by decide, fun H6 v x b6 T6 hx xb x2 xd xa => ?_⟩
  have S46 := But.same na b6
  have S6 := S4.trans S46
  have T6' := T4.same S46
  dsimp only [gName]
  refine st_split (t := tIfS _ _ _) (fun σ' H' => ∃ v' x' s5, σ' = [some (.ref a), some (.ref t), some (.int (n : Int)), some (.int f), some v', s5, none, none] ∧ TreeAt H' v' x' ∧ x'.Below (n : Int) ∧ x'.Two ∧ x'.depth ≤ 6)
    (fun D' hD' => ?_) ?_
  · refine ⟨_, rfl, t, 2, rfl, T6', by decide, by decide, fun H7 r b7 T7 r0 r1 => ⟨rfl, _, rfl, ?_⟩⟩
    have S7 : Same H H7 := But.same nt (b3.trans (b4.trans ((But.of S46).trans b7)))
    have hx7 := hx.tape b7 T6'
    refine ite2 (fun c => ?_) (fun c => ?_)
    · refine ⟨_, rfl, a, ns, 2, rfl, S7.seq hS, by decide, fun tb cb nb cb0 => ?_⟩
      have Tb : Tape (upd H7 tb (.lst [.int cb, .int 0])) tb := tape_new cb0
      have gb := same_new nb (.lst [.int cb, .int 0])
      refine ⟨_, rfl, _, rfl, _, rfl, _, rfl, by omega, by omega, fun D nD => ?_⟩
      have hDt : D ≠ tb := Tb.ne nD
      refine lc_range (lo := 0) (n := ((n : Nat) : Int).toNat) (fun i H' => ∃ ws : List V, H' D = some (.lst ws) ∧ ws.length = i ∧ (∀ k ∈ ws, k = .non) ∧ Same (upd H7 tb (.lst [.int cb, .int 0])) H') ⟨[], upd_same, rfl, (fun _ h => nomatch h), same_new nD _⟩ ?_ ?_
      · rintro i H8 hi ⟨ws, e7, l7, k7, g7⟩
        refine ⟨rfl, ?_⟩
        refine ⟨_, e7, smallLt (by omega), ws ++ [.non], upd_same, by simp [l7], fun k hk => ?_, g7.later nD⟩
        rcases List.mem_append.mp hk with hk | hk
        · exact k7 k hk
        · exact List.mem_singleton.mp hk
      · rintro H8 ⟨ws, e7, l7, k7, g7⟩
        have g67 := gb.trans g7
        refine ⟨tb, v, x, f, D, ws, 2, rfl, Tb.same g7, hx7.same g67, x2, e7, hDt, by omega, by omega, fun k hk => .inl (k7 k hk), (by rw [l7]; exact xb), by omega, fun H9 v' y b8 T8 hy yb y2 yd => ?_⟩
        exact hD' _ _ ⟨v', y, _, rfl, hy, (by rw [l7] at yb; exact yb), y2, by omega⟩
    · exact hD' _ _ ⟨v, x, _, rfl, hx7, xb, x2, by omega⟩
  clear hx xb x2 xd xa S46 S6 S4 b6 T6 T6' H6 v x
  rintro σ' H7 ⟨v, x, s5, rfl, hx, xb, x2, xd⟩
  have az : x.asks ≤ 1000 := by have := Tr.asks_small (t := x) (by omega); omega
  have p0 := Int.fmod_nonneg_of_pos (f + 1) (show (0 : Int) < (n : Int) by omega)
  have p1 := Int.fmod_lt_of_pos (f + 1) (show (0 : Int) < (n : Int) by omega)
  refine ⟨_, rfl, _, rfl, _, _, rfl, rfl, .inl ⟨_, rfl, _, rfl, _, _, rfl, rfl, by omega, _, rfl, small (by show 3 ≤ 100000; decide), fun pl nl => ?_⟩⟩
  have gl := same_new nl (.lst [.int f, .int ((f + 1).fmod (n : Int)), .int f])
  refine ⟨pl, rfl, ⟨_, SqL.of upd_same⟩, ?_⟩
  refine for_list (a := pl) (xs := [.int f, .int ((f + 1).fmod (n : Int)), .int f]) (fun i σ H' => (∃ s6 s7, σ = [some (.ref a), some (.ref t), some (.int (n : Int)), some (.int f), some v, s5, s6, s7]) ∧ Same (upd H7 pl (.lst [.int f, .int ((f + 1).fmod (n : Int)), .int f])) H')
    ⟨⟨_, _, rfl⟩, Same.refl _⟩ (fun i σ H' _ ⟨_, g⟩ => SqL.of (g _ _ upd_same)) ?_ ?_
  · rintro i y σ H8 hy ⟨⟨s6, s7, rfl⟩, g8⟩
    have : ∃ k : Int, y = .int k ∧ 0 ≤ k ∧ k < (n : Int) := by
      have := List.mem_of_getElem? hy
      simp only [List.mem_cons, List.not_mem_nil, or_false] at this
      rcases this with z | z | z
      · exact ⟨_, z, f0, f1⟩
      · exact ⟨_, z, p0, p1⟩
      · exact ⟨_, z, f0, f1⟩
    obtain ⟨k, rfl, k0, k1⟩ := this
    have hx8 := hx.same (gl.trans g8)
    refine ⟨_, rfl, _, rfl, _, rfl, v, x, k, n, rfl, hx8, by omega, az, x2, k0, k1, n6, xb, fun p H9 fs g9 pw m e9 => ?_⟩
    have hm : ∀ z ∈ fs, 0 ≤ z ∧ z < (n : Int) := fun z hz => Tr.below_mem (least_props_b ⟨k0, k1⟩ xb) z ((m z).mp hz)
    refine ⟨_, rfl, _, rfl, p, (n : Int), fs, rfl, e9, pw, hm, ?_⟩
    refine ⟨_, rfl, ?_⟩
    refine iteF ?_
    refine ⟨_, rfl, p, _, rfl, .inr (SqT.of e9), fun p3 n3 => ?_⟩
    have g3 := same_new n3 (.lst (fs.map V.int))
    refine ⟨_, rfl, _, rfl, _, rfl, v, x, k, n, rfl, hx8.same (g9.trans g3), by omega, k0, k1, n6, xb, fun p4 H10 fs4 g10 pw4 m4 e10 => ?_⟩
    have efs : fs4 = fs := asc_same pw4 pw fun z => by
      rw [m4 z]
      constructor
      · rintro ⟨g, rfl, hg, hne⟩
        exact (m _).mpr ((needs_iff ⟨k0, k1⟩ xb hg).mpr hne)
      · intro hz
        obtain ⟨h1, h2⟩ := hm z hz
        refine ⟨z.toNat, by omega, by omega, (needs_iff ⟨k0, k1⟩ xb (by omega)).mp ?_⟩
        rw [Int.toNat_of_nonneg h1]
        exact (m z).mp hz
    subst efs
    refine ⟨.list (fs4.map PyData.int), .list (fs4.map PyData.int), .lst (SqL.of (g10 _ _ upd_same)) (dpInts fs4), .lst (SqL.of e10) (dpInts fs4), shapedInts fs4, shapedInts fs4, _, rfl, ?_⟩
    rw [SeqAt.eqv_refl _ (canInts fs4)]
    refine iteF ?_
    exact ⟨⟨_, _, rfl⟩, g8.trans (g9.trans (g3.trans g10))⟩
  · rintro σ H' ⟨⟨s6, s7, rfl⟩, g⟩
    exact q _

end
-- dn branch : dn_branch @ctx F_branch
-- dn all_asks : dn_all @ctx B F_all_asks 60
-- dn asked : dn_asked @ctx B F_asked D_all_asks
-- dn fixed : dn_fixed @ctx B F_fixed D_branch 30
-- dn lio : dn_lio @ctx B F_least_in_order D_fixed 10
-- dn least : dn_least @ctx B F_least_tree D_asked D_lio
-- dn needed : dn_needed @ctx B F_needed_fields D_asked D_least
-- dn tape : dn_tape @ctx B F__law_tape
-- dn take : dn_take @ctx B F__law_take
-- dn tree : dn_tree @ctx B F__law_tree D_take 4
-- dn tree2 : dn_tree @ctx B F__law_tree D_take 2
-- dn padded : dn_padded @ctx B F__law_padded D_take D_tree2 6
-- dn lfollow : dn_lfollow @ctx B F__law_follow
-- dn rows : dn_rows @ctx B F__law_rows
-- dn isint : dn_isint @ctx B F__law_is_integer
-- dn asc : dn_asc @ctx B F__law_is_ascending D_isint
-- dn lneed : dn_lneed @ctx B F__law_needed D_rows D_lfollow
-- dn law : ok_law @ctx B @Q D_tape D_take D_tree D_padded D_needed D_asc D_lneed
/-! ### the program's top -/
theorem all_mk {l : PySem.W.OpenLaw} {w : World} {K : PySem.W.Frag} {h : Heap} {mg : Str → Option Value} {fa : Addr} (X : K.In h) (G : h.Ns mainGlobals mg) (hfa : mg "law" = some (.ref fa))
    {f1 : Addr} {od1 an1 : Option Addr} {sl1 : Array (Option Value)} {oc1 kV1 dc1 pm1 cd1 ct1 : Value}
    {f2 : Addr} {od2 an2 : Option Addr} {sl2 : Array (Option Value)} {oc2 kV2 dc2 pm2 cd2 ct2 : Value}
    {f3 : Addr} {od3 an3 : Option Addr} {sl3 : Array (Option Value)} {oc3 kV3 dc3 pm3 cd3 ct3 : Value}
    {f4 : Addr} {od4 an4 : Option Addr} {sl4 : Array (Option Value)} {oc4 kV4 dc4 pm4 cd4 ct4 : Value}
    {f5 : Addr} {od5 an5 : Option Addr} {sl5 : Array (Option Value)} {oc5 kV5 dc5 pm5 cd5 ct5 : Value}
    {f6 : Addr} {od6 an6 : Option Addr} {sl6 : Array (Option Value)} {oc6 kV6 dc6 pm6 cd6 ct6 : Value}
    {f7 : Addr} {od7 an7 : Option Addr} {sl7 : Array (Option Value)} {oc7 kV7 dc7 pm7 cd7 ct7 : Value}
    {f8 : Addr} {od8 an8 : Option Addr} {sl8 : Array (Option Value)} {oc8 kV8 dc8 pm8 cd8 ct8 : Value}
    {f9 : Addr} {od9 an9 : Option Addr} {sl9 : Array (Option Value)} {oc9 kV9 dc9 pm9 cd9 ct9 : Value}
    {f10 : Addr} {od10 an10 : Option Addr} {sl10 : Array (Option Value)} {oc10 kV10 dc10 pm10 cd10 ct10 : Value}
    {f11 : Addr} {od11 an11 : Option Addr} {sl11 : Array (Option Value)} {oc11 kV11 dc11 pm11 cd11 ct11 : Value}
    {f12 : Addr} {od12 an12 : Option Addr} {sl12 : Array (Option Value)} {oc12 kV12 dc12 pm12 cd12 ct12 : Value}
    {f13 : Addr} {od13 an13 : Option Addr} {sl13 : Array (Option Value)} {oc13 kV13 dc13 pm13 cd13 ct13 : Value}
    {f14 : Addr} {od14 an14 : Option Addr} {sl14 : Array (Option Value)} {oc14 kV14 dc14 pm14 cd14 ct14 : Value}
    {f15 : Addr} {od15 an15 : Option Addr} {sl15 : Array (Option Value)} {oc15 kV15 dc15 pm15 cd15 ct15 : Value}
    {f16 : Addr} {od16 an16 : Option Addr} {sl16 : Array (Option Value)} {oc16 kV16 dc16 pm16 cd16 ct16 : Value}
    {f17 : Addr} {od17 an17 : Option Addr} {sl17 : Array (Option Value)} {oc17 kV17 dc17 pm17 cd17 ct17 : Value}
    (a1 : PySem.W.nsIn K mainGlobals "branch" = some (some (.ref f1)))
    (l1 : K.lookup f1 = some ⟨oc1, od1, .func (PySem.W.fnOf "branch" "branch" (defArgs s_branch) (defBody s_branch) (defScope s_branch) .none kV1 dc1 pm1 an1 cd1 ct1), sl1⟩)
    (c1 : PySem.W.codeIn K cd1 "branch" = true)
    (k1 : PySem.W.keepIn K (.ref f1) = true)
    (a2 : PySem.W.nsIn K mainGlobals "all_asks" = some (some (.ref f2)))
    (l2 : K.lookup f2 = some ⟨oc2, od2, .func (PySem.W.fnOf "all_asks" "all_asks" (defArgs s_all_asks) (defBody s_all_asks) (defScope s_all_asks) .none kV2 dc2 pm2 an2 cd2 ct2), sl2⟩)
    (c2 : PySem.W.codeIn K cd2 "all_asks" = true)
    (k2 : PySem.W.keepIn K (.ref f2) = true)
    (a3 : PySem.W.nsIn K mainGlobals "asked" = some (some (.ref f3)))
    (l3 : K.lookup f3 = some ⟨oc3, od3, .func (PySem.W.fnOf "asked" "asked" (defArgs s_asked) (defBody s_asked) (defScope s_asked) .none kV3 dc3 pm3 an3 cd3 ct3), sl3⟩)
    (c3 : PySem.W.codeIn K cd3 "asked" = true)
    (k3 : PySem.W.keepIn K (.ref f3) = true)
    (a4 : PySem.W.nsIn K mainGlobals "fixed" = some (some (.ref f4)))
    (l4 : K.lookup f4 = some ⟨oc4, od4, .func (PySem.W.fnOf "fixed" "fixed" (defArgs s_fixed) (defBody s_fixed) (defScope s_fixed) .none kV4 dc4 pm4 an4 cd4 ct4), sl4⟩)
    (c4 : PySem.W.codeIn K cd4 "fixed" = true)
    (k4 : PySem.W.keepIn K (.ref f4) = true)
    (a5 : PySem.W.nsIn K mainGlobals "least_in_order" = some (some (.ref f5)))
    (l5 : K.lookup f5 = some ⟨oc5, od5, .func (PySem.W.fnOf "least_in_order" "least_in_order" (defArgs s_least_in_order) (defBody s_least_in_order) (defScope s_least_in_order) .none kV5 dc5 pm5 an5 cd5 ct5), sl5⟩)
    (c5 : PySem.W.codeIn K cd5 "least_in_order" = true)
    (k5 : PySem.W.keepIn K (.ref f5) = true)
    (a6 : PySem.W.nsIn K mainGlobals "least_tree" = some (some (.ref f6)))
    (l6 : K.lookup f6 = some ⟨oc6, od6, .func (PySem.W.fnOf "least_tree" "least_tree" (defArgs s_least_tree) (defBody s_least_tree) (defScope s_least_tree) .none kV6 dc6 pm6 an6 cd6 ct6), sl6⟩)
    (c6 : PySem.W.codeIn K cd6 "least_tree" = true)
    (k6 : PySem.W.keepIn K (.ref f6) = true)
    (a7 : PySem.W.nsIn K mainGlobals "needed_fields" = some (some (.ref f7)))
    (l7 : K.lookup f7 = some ⟨oc7, od7, .func (PySem.W.fnOf "needed_fields" "needed_fields" (defArgs s_needed_fields) (defBody s_needed_fields) (defScope s_needed_fields) .none kV7 dc7 pm7 an7 cd7 ct7), sl7⟩)
    (c7 : PySem.W.codeIn K cd7 "needed_fields" = true)
    (k7 : PySem.W.keepIn K (.ref f7) = true)
    (a8 : PySem.W.nsIn K mainGlobals "_law_tape" = some (some (.ref f8)))
    (l8 : K.lookup f8 = some ⟨oc8, od8, .func (PySem.W.fnOf "_law_tape" "_law_tape" (defArgs s__law_tape) (defBody s__law_tape) (defScope s__law_tape) .none kV8 dc8 pm8 an8 cd8 ct8), sl8⟩)
    (c8 : PySem.W.codeIn K cd8 "_law_tape" = true)
    (k8 : PySem.W.keepIn K (.ref f8) = true)
    (a9 : PySem.W.nsIn K mainGlobals "_law_take" = some (some (.ref f9)))
    (l9 : K.lookup f9 = some ⟨oc9, od9, .func (PySem.W.fnOf "_law_take" "_law_take" (defArgs s__law_take) (defBody s__law_take) (defScope s__law_take) .none kV9 dc9 pm9 an9 cd9 ct9), sl9⟩)
    (c9 : PySem.W.codeIn K cd9 "_law_take" = true)
    (k9 : PySem.W.keepIn K (.ref f9) = true)
    (a10 : PySem.W.nsIn K mainGlobals "_law_tree" = some (some (.ref f10)))
    (l10 : K.lookup f10 = some ⟨oc10, od10, .func (PySem.W.fnOf "_law_tree" "_law_tree" (defArgs s__law_tree) (defBody s__law_tree) (defScope s__law_tree) .none kV10 dc10 pm10 an10 cd10 ct10), sl10⟩)
    (c10 : PySem.W.codeIn K cd10 "_law_tree" = true)
    (k10 : PySem.W.keepIn K (.ref f10) = true)
    (a11 : PySem.W.nsIn K mainGlobals "_law_padded" = some (some (.ref f11)))
    (l11 : K.lookup f11 = some ⟨oc11, od11, .func (PySem.W.fnOf "_law_padded" "_law_padded" (defArgs s__law_padded) (defBody s__law_padded) (defScope s__law_padded) .none kV11 dc11 pm11 an11 cd11 ct11), sl11⟩)
    (c11 : PySem.W.codeIn K cd11 "_law_padded" = true)
    (k11 : PySem.W.keepIn K (.ref f11) = true)
    (a12 : PySem.W.nsIn K mainGlobals "_law_follow" = some (some (.ref f12)))
    (l12 : K.lookup f12 = some ⟨oc12, od12, .func (PySem.W.fnOf "_law_follow" "_law_follow" (defArgs s__law_follow) (defBody s__law_follow) (defScope s__law_follow) .none kV12 dc12 pm12 an12 cd12 ct12), sl12⟩)
    (c12 : PySem.W.codeIn K cd12 "_law_follow" = true)
    (k12 : PySem.W.keepIn K (.ref f12) = true)
    (a13 : PySem.W.nsIn K mainGlobals "_law_rows" = some (some (.ref f13)))
    (l13 : K.lookup f13 = some ⟨oc13, od13, .func (PySem.W.fnOf "_law_rows" "_law_rows" (defArgs s__law_rows) (defBody s__law_rows) (defScope s__law_rows) .none kV13 dc13 pm13 an13 cd13 ct13), sl13⟩)
    (c13 : PySem.W.codeIn K cd13 "_law_rows" = true)
    (k13 : PySem.W.keepIn K (.ref f13) = true)
    (a14 : PySem.W.nsIn K mainGlobals "_law_is_integer" = some (some (.ref f14)))
    (l14 : K.lookup f14 = some ⟨oc14, od14, .func (PySem.W.fnOf "_law_is_integer" "_law_is_integer" (defArgs s__law_is_integer) (defBody s__law_is_integer) (defScope s__law_is_integer) .none kV14 dc14 pm14 an14 cd14 ct14), sl14⟩)
    (c14 : PySem.W.codeIn K cd14 "_law_is_integer" = true)
    (k14 : PySem.W.keepIn K (.ref f14) = true)
    (a15 : PySem.W.nsIn K mainGlobals "_law_is_ascending" = some (some (.ref f15)))
    (l15 : K.lookup f15 = some ⟨oc15, od15, .func (PySem.W.fnOf "_law_is_ascending" "_law_is_ascending" (defArgs s__law_is_ascending) (defBody s__law_is_ascending) (defScope s__law_is_ascending) .none kV15 dc15 pm15 an15 cd15 ct15), sl15⟩)
    (c15 : PySem.W.codeIn K cd15 "_law_is_ascending" = true)
    (k15 : PySem.W.keepIn K (.ref f15) = true)
    (a16 : PySem.W.nsIn K mainGlobals "_law_needed" = some (some (.ref f16)))
    (l16 : K.lookup f16 = some ⟨oc16, od16, .func (PySem.W.fnOf "_law_needed" "_law_needed" (defArgs s__law_needed) (defBody s__law_needed) (defScope s__law_needed) .none kV16 dc16 pm16 an16 cd16 ct16), sl16⟩)
    (c16 : PySem.W.codeIn K cd16 "_law_needed" = true)
    (k16 : PySem.W.keepIn K (.ref f16) = true)
    (a17 : PySem.W.nsIn K mainGlobals "law" = some (some (.ref f17)))
    (l17 : K.lookup f17 = some ⟨oc17, od17, .func (PySem.W.fnOf "law" "law" (defArgs s_law) (defBody s_law) (defScope s_law) .none kV17 dc17 pm17 an17 cd17 ct17), sl17⟩)
    (c17 : PySem.W.codeIn K cd17 "law" = true)
    (k17 : PySem.W.keepIn K (.ref f17) = true)
    (z_abs : PySem.W.nsIn K mainGlobals "abs" = some none)
    (z_bool : PySem.W.nsIn K mainGlobals "bool" = some none)
    (z_int : PySem.W.nsIn K mainGlobals "int" = some none)
    (z_isinstance : PySem.W.nsIn K mainGlobals "isinstance" = some none)
    (z_len : PySem.W.nsIn K mainGlobals "len" = some none)
    (z_list : PySem.W.nsIn K mainGlobals "list" = some none)
    (z_range : PySem.W.nsIn K mainGlobals "range" = some none)
    (z_set : PySem.W.nsIn K mainGlobals "set" = some none)
    (z_sorted : PySem.W.nsIn K mainGlobals "sorted" = some none)
    (z_str : PySem.W.nsIn K mainGlobals "str" = some none)
    (z_tuple : PySem.W.nsIn K mainGlobals "tuple" = some none)
    : ∃ fd : FuncData, (∀ (s : Shared) (v : Value), BindsTo s fd ⟨[v], []⟩ [("_law_script", v)]) ∧ ∀ base : Heap, K.In base → base.Ns mainGlobals mg → FnOk l.prog w K mg base CX0 64 fa fd ["_law_script"] (sp_law K) := by
  have e := hfa.symm.trans (PySem.W.mg_of X G a17)
  cases e
  have B : Bts mg := ⟨PySem.W.mg_none_of X G z_abs, PySem.W.mg_none_of X G z_bool, PySem.W.mg_none_of X G z_int, PySem.W.mg_none_of X G z_isinstance, PySem.W.mg_none_of X G z_len, PySem.W.mg_none_of X G z_list, PySem.W.mg_none_of X G z_range, PySem.W.mg_none_of X G z_set, PySem.W.mg_none_of X G z_sorted, PySem.W.mg_none_of X G z_str, PySem.W.mg_none_of X G z_tuple⟩
  have Q1 := fun_mk (st := s_branch) l1 c1 k1
  have F_branch : Df K mg "branch" s_branch P_branch := ⟨_, _, Q1, Q1.binds (ps := P_branch) fun _ _ _ _ _ _ us hl => match us, hl with | [_, _], _ => rfl, PySem.W.mg_of X G a1⟩
  have Q2 := fun_mk (st := s_all_asks) l2 c2 k2
  have F_all_asks : Df K mg "all_asks" s_all_asks P_all_asks := ⟨_, _, Q2, Q2.binds (ps := P_all_asks) fun _ _ _ _ _ _ us hl => match us, hl with | [_], _ => rfl, PySem.W.mg_of X G a2⟩
  have Q3 := fun_mk (st := s_asked) l3 c3 k3
  have F_asked : Df K mg "asked" s_asked P_asked := ⟨_, _, Q3, Q3.binds (ps := P_asked) fun _ _ _ _ _ _ us hl => match us, hl with | [_], _ => rfl, PySem.W.mg_of X G a3⟩
  have Q4 := fun_mk (st := s_fixed) l4 c4 k4
  have F_fixed : Df K mg "fixed" s_fixed P_fixed := ⟨_, _, Q4, Q4.binds (ps := P_fixed) fun _ _ _ _ _ _ us hl => match us, hl with | [_, _, _], _ => rfl, PySem.W.mg_of X G a4⟩
  have Q5 := fun_mk (st := s_least_in_order) l5 c5 k5
  have F_least_in_order : Df K mg "least_in_order" s_least_in_order P_least_in_order := ⟨_, _, Q5, Q5.binds (ps := P_least_in_order) fun _ _ _ _ _ _ us hl => match us, hl with | [_, _, _], _ => rfl, PySem.W.mg_of X G a5⟩
  have Q6 := fun_mk (st := s_least_tree) l6 c6 k6
  have F_least_tree : Df K mg "least_tree" s_least_tree P_least_tree := ⟨_, _, Q6, Q6.binds (ps := P_least_tree) fun _ _ _ _ _ _ us hl => match us, hl with | [_, _, _], _ => rfl, PySem.W.mg_of X G a6⟩
  have Q7 := fun_mk (st := s_needed_fields) l7 c7 k7
  have F_needed_fields : Df K mg "needed_fields" s_needed_fields P_needed_fields := ⟨_, _, Q7, Q7.binds (ps := P_needed_fields) fun _ _ _ _ _ _ us hl => match us, hl with | [_, _, _], _ => rfl, PySem.W.mg_of X G a7⟩
  have Q8 := fun_mk (st := s__law_tape) l8 c8 k8
  have F__law_tape : Df K mg "_law_tape" s__law_tape P__law_tape := ⟨_, _, Q8, Q8.binds (ps := P__law_tape) fun _ _ _ _ _ _ us hl => match us, hl with | [_, _], _ => rfl, PySem.W.mg_of X G a8⟩
  have Q9 := fun_mk (st := s__law_take) l9 c9 k9
  have F__law_take : Df K mg "_law_take" s__law_take P__law_take := ⟨_, _, Q9, Q9.binds (ps := P__law_take) fun _ _ _ _ _ _ us hl => match us, hl with | [_, _], _ => rfl, PySem.W.mg_of X G a9⟩
  have Q10 := fun_mk (st := s__law_tree) l10 c10 k10
  have F__law_tree : Df K mg "_law_tree" s__law_tree P__law_tree := ⟨_, _, Q10, Q10.binds (ps := P__law_tree) fun _ _ _ _ _ _ us hl => match us, hl with | [_, _, _], _ => rfl, PySem.W.mg_of X G a10⟩
  have Q11 := fun_mk (st := s__law_padded) l11 c11 k11
  have F__law_padded : Df K mg "_law_padded" s__law_padded P__law_padded := ⟨_, _, Q11, Q11.binds (ps := P__law_padded) fun _ _ _ _ _ _ us hl => match us, hl with | [_, _, _, _, _], _ => rfl, PySem.W.mg_of X G a11⟩
  have Q12 := fun_mk (st := s__law_follow) l12 c12 k12
  have F__law_follow : Df K mg "_law_follow" s__law_follow P__law_follow := ⟨_, _, Q12, Q12.binds (ps := P__law_follow) fun _ _ _ _ _ _ us hl => match us, hl with | [_, _], _ => rfl, PySem.W.mg_of X G a12⟩
  have Q13 := fun_mk (st := s__law_rows) l13 c13 k13
  have F__law_rows : Df K mg "_law_rows" s__law_rows P__law_rows := ⟨_, _, Q13, Q13.binds (ps := P__law_rows) fun _ _ _ _ _ _ us hl => match us, hl with | [_], _ => rfl, PySem.W.mg_of X G a13⟩
  have Q14 := fun_mk (st := s__law_is_integer) l14 c14 k14
  have F__law_is_integer : Df K mg "_law_is_integer" s__law_is_integer P__law_is_integer := ⟨_, _, Q14, Q14.binds (ps := P__law_is_integer) fun _ _ _ _ _ _ us hl => match us, hl with | [_], _ => rfl, PySem.W.mg_of X G a14⟩
  have Q15 := fun_mk (st := s__law_is_ascending) l15 c15 k15
  have F__law_is_ascending : Df K mg "_law_is_ascending" s__law_is_ascending P__law_is_ascending := ⟨_, _, Q15, Q15.binds (ps := P__law_is_ascending) fun _ _ _ _ _ _ us hl => match us, hl with | [_, _], _ => rfl, PySem.W.mg_of X G a15⟩
  have Q16 := fun_mk (st := s__law_needed) l16 c16 k16
  have F__law_needed : Df K mg "_law_needed" s__law_needed P__law_needed := ⟨_, _, Q16, Q16.binds (ps := P__law_needed) fun _ _ _ _ _ _ us hl => match us, hl with | [_, _, _], _ => rfl, PySem.W.mg_of X G a16⟩
  have Q17 := fun_mk (st := s_law) l17 c17 k17
  have F_law : Df K mg "law" s_law P_law := ⟨_, _, Q17, Q17.binds (ps := P_law) fun _ _ _ _ _ _ us hl => match us, hl with | [_], _ => rfl, PySem.W.mg_of X G a17⟩
  refine ⟨PySem.W.fnOf "law" "law" (defArgs s_law) (defBody s_law) (defScope s_law) .none kV17 dc17 pm17 an17 cd17 ct17, fun s v => .of_eq rfl, fun base _ _ => ?_⟩
  have D_branch := dn_branch (P := l.prog) (w := w) (base := base) F_branch
  have D_all_asks := dn_all (P := l.prog) (w := w) (base := base) B F_all_asks 60
  have D_asked := dn_asked (P := l.prog) (w := w) (base := base) B F_asked D_all_asks
  have D_fixed := dn_fixed (P := l.prog) (w := w) (base := base) B F_fixed D_branch 30
  have D_lio := dn_lio (P := l.prog) (w := w) (base := base) B F_least_in_order D_fixed 10
  have D_least := dn_least (P := l.prog) (w := w) (base := base) B F_least_tree D_asked D_lio
  have D_needed := dn_needed (P := l.prog) (w := w) (base := base) B F_needed_fields D_asked D_least
  have D_tape := dn_tape (P := l.prog) (w := w) (base := base) B F__law_tape
  have D_take := dn_take (P := l.prog) (w := w) (base := base) B F__law_take
  have D_tree := dn_tree (P := l.prog) (w := w) (base := base) B F__law_tree D_take 4
  have D_tree2 := dn_tree (P := l.prog) (w := w) (base := base) B F__law_tree D_take 2
  have D_padded := dn_padded (P := l.prog) (w := w) (base := base) B F__law_padded D_take D_tree2 6
  have D_lfollow := dn_lfollow (P := l.prog) (w := w) (base := base) B F__law_follow
  have D_rows := dn_rows (P := l.prog) (w := w) (base := base) B F__law_rows
  have D_isint := dn_isint (P := l.prog) (w := w) (base := base) B F__law_is_integer
  have D_asc := dn_asc (P := l.prog) (w := w) (base := base) B F__law_is_ascending D_isint
  have D_lneed := dn_lneed (P := l.prog) (w := w) (base := base) B F__law_needed D_rows D_lfollow
  exact ok_law (P := l.prog) (w := w) (base := base) B Q17 D_tape D_take D_tree D_padded D_needed D_asc D_lneed
theorem walk {l : PySem.W.OpenLaw} {q : Program} {loose : List Str} {XP : (Str → Option Value) → Heap → Prop} {YP : World → Heap → Prop} {d : DefRec} {K : Params → PySem.W.Frag} (hn : l.most = some 63) (hdf : d.params.defaults = [])
    (hY : ∀ (w : World) (h : Heap), YP w h → (K w.params).In h)
    (F : ∀ (w : World) (mg : Str → Option Value) (fa : Addr) (h : Heap), (K w.params).In h → h.Ns mainGlobals mg → mg d.name = some (.ref fa) →
      ∃ fd : FuncData, (∀ (s : Shared) (u : Value), BindsTo s fd ⟨[u], []⟩ [("_law_script", u)]) ∧ ∀ base : Heap, (K w.params).In base → base.Ns mainGlobals mg → FnOk l.prog w (K w.params) mg base CX0 64 fa fd ["_law_script"] (sp_law (K w.params))) :
    PySem.W.WalkO q loose XP YP l.row.toRowW d [] (fun f vs => PySem.call f vs) :=
  L2.walk_of (n := 63) (k := 64) (x := "_law_script") (CX := fun _ => CX0) (sp := fun w => sp_law (K w.params)) hn (by decide) hdf ⟨rfl, by decide, by decide⟩ hY F (fun w H a ns hl _ hS => ⟨a, ns, rfl, hS, hl, fun _ => rfl⟩) fun _ _ _ _ _ z => z
end Law
open PySem PySem.W PyProof.Rows
set_option maxRecDepth 100000 in
set_option maxHeartbeats 0 in
theorem PySem.Challenge.cw_fieldrides_k26_whole_needed_fields_holds : PySem.Challenge.rw_fieldrides_k26_whole_needed_fields.Holds := by
  w_on; o_law; k_head; (case hw => w_witness2)
  k_fill
  refine Law.walk (l := PySem.Challenge.rw_fieldrides_k26_whole_needed_fields) rfl rfl (fun w h Y => PySem.W.kIn_of Y) ?F
  case F =>
    intro w mg fa h KX G hmg
    refine' Law.all_mk KX G hmg ?a1 ?l1 ?c1 ?k1 ?a2 ?l2 ?c2 ?k2 ?a3 ?l3 ?c3 ?k3 ?a4 ?l4 ?c4 ?k4 ?a5 ?l5 ?c5 ?k5 ?a6 ?l6 ?c6 ?k6 ?a7 ?l7 ?c7 ?k7 ?a8 ?l8 ?c8 ?k8 ?a9 ?l9 ?c9 ?k9 ?a10 ?l10 ?c10 ?k10 ?a11 ?l11 ?c11 ?k11 ?a12 ?l12 ?c12 ?k12 ?a13 ?l13 ?c13 ?k13 ?a14 ?l14 ?c14 ?k14 ?a15 ?l15 ?c15 ?k15 ?a16 ?l16 ?c16 ?k16 ?a17 ?l17 ?c17 ?k17 ?z_abs ?z_bool ?z_int ?z_isinstance ?z_len ?z_list ?z_range ?z_set ?z_sorted ?z_str ?z_tuple
    (case a1 => k_is)
    (case l1 => k_is)
    (case c1 => k_is)
    (case k1 => k_is)
    (case a2 => k_is)
    (case l2 => k_is)
    (case c2 => k_is)
    (case k2 => k_is)
    (case a3 => k_is)
    (case l3 => k_is)
    (case c3 => k_is)
    (case k3 => k_is)
    (case a4 => k_is)
    (case l4 => k_is)
    (case c4 => k_is)
    (case k4 => k_is)
    (case a5 => k_is)
    (case l5 => k_is)
    (case c5 => k_is)
    (case k5 => k_is)
    (case a6 => k_is)
    (case l6 => k_is)
    (case c6 => k_is)
    (case k6 => k_is)
    (case a7 => k_is)
    (case l7 => k_is)
    (case c7 => k_is)
    (case k7 => k_is)
    (case a8 => k_is)
    (case l8 => k_is)
    (case c8 => k_is)
    (case k8 => k_is)
    (case a9 => k_is)
    (case l9 => k_is)
    (case c9 => k_is)
    (case k9 => k_is)
    (case a10 => k_is)
    (case l10 => k_is)
    (case c10 => k_is)
    (case k10 => k_is)
    (case a11 => k_is)
    (case l11 => k_is)
    (case c11 => k_is)
    (case k11 => k_is)
    (case a12 => k_is)
    (case l12 => k_is)
    (case c12 => k_is)
    (case k12 => k_is)
    (case a13 => k_is)
    (case l13 => k_is)
    (case c13 => k_is)
    (case k13 => k_is)
    (case a14 => k_is)
    (case l14 => k_is)
    (case c14 => k_is)
    (case k14 => k_is)
    (case a15 => k_is)
    (case l15 => k_is)
    (case c15 => k_is)
    (case k15 => k_is)
    (case a16 => k_is)
    (case l16 => k_is)
    (case c16 => k_is)
    (case k16 => k_is)
    (case a17 => k_is)
    (case l17 => k_is)
    (case c17 => k_is)
    (case k17 => k_is)
    (case z_abs => k_is)
    (case z_bool => k_is)
    (case z_int => k_is)
    (case z_isinstance => k_is)
    (case z_len => k_is)
    (case z_list => k_is)
    (case z_range => k_is)
    (case z_set => k_is)
    (case z_sorted => k_is)
    (case z_str => k_is)
    (case z_tuple => k_is)

