import PyProof.Rows.All
import Wide.All
import OpenK.AllK
import Wide.FinOn
import HandS.ForMost
import HandS.ForExc
import HandS.IsInst
import HandS.Strs
import HandS.SetFor
import HandS.SortInts
import HandS.Wide
import PySem.Challenge.RW_fieldrides_k01_follow_a_tree
set_option Elab.async false
set_option linter.all false
set_option maxRecDepth 100000
/-! My base: defs by name, heaps but for one list, sets of ints from a list. -/
namespace My
open PySem PySem.Spec PyProof.Rows L2

/-! ### a def that stands under a name of the module -/
structure Df (K : PySem.W.Frag) (mg : Str → Option Value) (x : Str) (st : Stmt) (ps : List Str) : Prop where
  ex : ∃ (f : Addr) (fd : FuncData), Fun K x x st f fd ∧ Binds K fd ps [] ∧ mg x = some (.ref f)
structure Dn (P : Program) (w : World) (K : PySem.W.Frag) (mg : Str → Option Value) (base : Heap) (k : Nat) (x : Str) (sp : Sp) : Prop where
  ex : ∃ (f : Addr) (fd : FuncData) (ps : List Str), FnOk P w K mg base CX0 k f fd ps sp ∧ mg x = some (.ref f) ∧ PySem.W.keepIn K (.ref f) = true ∧ Binds K fd ps []
section
variable {P : Program} {w : World} {K : PySem.W.Frag} {mg : Str → Option Value} {base : Heap}
theorem Df.ok {x : Str} {st : Stmt} {N ps : List Str} {k : Nat} {sp : Sp} (F : Df K mg x st ps) (S : FnScope N ps (defScope st)) (len : ∀ vs H Q E, sp vs H Q E → vs.length = ps.length)
    (body : ∀ (f : Addr) (cdv : Value) (A : Around) (outer : List Env) (s : Shared) (H : Hp) (vs : List V) (Q : VK) (E : XK),
      Room k (A.deeper (envOfC x (defScope st) s.heap.objs.size f cdv)) → sp vs H Q E →
      ∃ t, PSs (cxOf CX0 P w K mg base N x (defScope st) f cdv A outer s H E).nox (defBody st) t ∧
        t { nx := fun _ H' => Q .non H', rt := Q } (start N vs) H) : Dn P w K mg base (k + 1) x sp := by
  obtain ⟨f, fd, F, b, m⟩ := F.ex
  exact ⟨f, fd, ps, F.ok S len (body f), m, F.kp, b⟩
theorem Dn.mono {x : Str} {j k : Nat} {sp : Sp} (D : Dn P w K mg base j x sp) (h : j ≤ k) : Dn P w K mg base k x sp := by
  obtain ⟨f, fd, ps, F, m, q, b⟩ := D.ex
  exact ⟨f, fd, ps, F.mono h, m, q, b⟩
theorem Dn.imp {x : Str} {k : Nat} {sp sp' : Sp} (D : Dn P w K mg base k x sp) (h : ∀ vs H Q E, sp' vs H Q E → sp vs H Q E) : Dn P w K mg base k x sp' := by
  obtain ⟨f, fd, ps, F, m, q, b⟩ := D.ex
  exact ⟨f, fd, ps, F.imp h, m, q, b⟩
/-- nothing is promised of a call that can't be -/
theorem Df.none {x : Str} {st : Stmt} {ps : List Str} {sp : Sp} (F : Df K mg x st ps) (no : ∀ vs H Q E, ¬ sp vs H Q E) (k : Nat) : Dn P w K mg base k x sp := by
  obtain ⟨f, fd, F, b, m⟩ := F.ex
  exact ⟨f, fd, ps, ⟨fun vs H Q E h => absurd h (no vs H Q E), fun A outer s H args us vs Q E _ _ _ _ h => absurd h (no vs H Q E)⟩, m, F.kp, b⟩
end
section
variable {X : Cx} {k : Nat} {x : Str} {sp : Sp} {e : Expr} {es : List Expr} {t : TA} {p pos : Pos}
theorem pe_callD (D : Dn X.prog X.w X.K X.mg X.base k x sp) (hr : Room k X.A) (hg : Gl X x) (ha : PA X (e :: es) t) (hdb : (x == ("__debug__" : Str)) = false := by decide)
    (he : starEach (e :: es) X.env = (false, eval e X.env) :: starEach es X.env := by rfl) (hpl : (backTo pos (starEach es X.env)).any (·.1) = false := by rfl) :
    PE X (.Call (.Name x p) (e :: es) [] pos) (tCall sp [] E0 t) := by
  obtain ⟨f, fd, ps, F, m, q, b⟩ := D.ex
  exact pe_call F hr hg m q b .nil pass0 ha hdb he hpl
theorem pe_callD0 (D : Dn X.prog X.w X.K X.mg X.base k x sp) (hr : Room k X.A) (hg : Gl X x) (hdb : (x == ("__debug__" : Str)) = false := by decide) :
    PE X (.Call (.Name x p) [] [] pos) (tCall sp [] E0 tNil) := by
  obtain ⟨f, fd, ps, F, m, q, b⟩ := D.ex
  exact pe_call0 F hr hg m q b .nil pass0 hdb
end

/-! ### heaps -/
theorem same_new {H : Hp} {p : Addr} (h : H p = Option.none) (o : HO) : Same H (upd H p o) := fun b u q => by rw [upd_ne (ne_of_none q h)]; exact q
/-- all but what stands at t is as it was -/
def But (t : Addr) (H H' : Hp) : Prop := ∀ b o, b ≠ t → H b = some o → H' b = some o
theorem But.refl (t : Addr) (H : Hp) : But t H H := fun _ _ _ h => h
theorem But.trans {t : Addr} {H H1 H2 : Hp} (a : But t H H1) (b : But t H1 H2) : But t H H2 := fun c o n h => b c o n (a c o n h)
theorem But.of {t : Addr} {H H' : Hp} (h : Same H H') : But t H H' := fun b o _ q => h b o q
theorem But.upd {t : Addr} {H : Hp} (o : HO) : But t H (upd H t o) := fun b u n q => by rw [upd_ne n]; exact q
theorem But.new {t p : Addr} {H : Hp} (h : H p = Option.none) (o : HO) : But t H (L2.upd H p o) := .of (same_new h o)
theorem But.tup {t p : Addr} {H H' : Hp} {l xs : List V} (b : But t H H') (ht : H t = some (.lst l)) (h : H p = some (.tup xs)) : H' p = some (.tup xs) :=
  b p _ (ne_of h ht (by intro z; cases z)) h
/-- from the heap ahead of the list at t -/
theorem But.same {t : Addr} {H0 H' : Hp} {o : HO} (n : H0 t = Option.none) (b : But t (L2.upd H0 t o) H') : Same H0 H' := fun c u q =>
  b c u (ne_of_none q n) (by rw [upd_ne (ne_of_none q n)]; exact q)
theorem _root_.L2.Same.seqT {K : PySem.W.Frag} {H H' : Hp} {a : Addr} {xs : List V} (e : Same H H') (h : SqT K H a xs) : SqT K H' a xs := by
  rcases h with (h | ⟨o, h⟩) | h
  · exact .inl (.inl (e _ _ h))
  · exact .inl (.inr ⟨o, e _ _ h⟩)
  · exact .inr h

/-! ### numbers in a list -/
theorem nodup_small : ∀ (n : Nat) (ds : List Int), ds.Nodup → (∀ z ∈ ds, 0 ≤ z ∧ z < (n : Int)) → ds.length ≤ n
  | 0, [], _, _ => Nat.le_refl _
  | 0, d :: ds, _, h => by have := h d (List.mem_cons_self ..); omega
  | n + 1, ds, nd, h => by
    have q := nodup_small n (ds.erase (n : Int)) (nd.erase _) fun z hz => by
      have h1 := h z (List.mem_of_mem_erase hz)
      have h2 : z ≠ (n : Int) := fun e => by
        subst e
        exact (nd.not_mem_erase hz)
      omega
    have l := List.length_erase_le (a := (n : Int)) (l := ds)
    by_cases m : (n : Int) ∈ ds
    · rw [List.length_erase_of_mem m] at q
      omega
    · rw [List.erase_of_not_mem m] at q
      omega

/-! ### the set of a list of ints -/
section
variable {P : Program} {w : World} {A : Around} {E : Value → Shared → Prop} {s : Shared}
set_option maxHeartbeats 3200000 in
theorem set_of_ints {l : Addr} {xs : Array Value} (ns : List Int) {Q : Value → Shared → Prop} (hh : A.handled = none) (hl : s.heap.IsList l xs) (hit : IntsAre xs.toList ns) (hb : ns.length + 1 < scanBound)
    (q : ∀ (h' : Heap) (tk c : Nat), SetR w h' s.heap.objs.size (fun j => decide (j ∈ ns)) c → (∀ b o, s.heap.get? b = some o → h'.get? b = some o) → Q (.ref s.heap.objs.size) { s with heap := h', toks := tk }) :
    wpAny (model P w) A (call (.type "set") [.ref l]) Q E s := by
  have size_eq : xs.size = ns.length := by
    have z := IntsAre.length hit
    rwa [Array.length_toList] at z
  let S0 : Obj := { cls := .type "set", dict := none, data := .set #[] 0 (.fresh 0 0 (!w.params.followText "set-order")) }
  obtain ⟨c1, t1, m1⟩ := F.called_set.mro
  have m2 := F.called_set.made; have m3 := F.called_set.sub
  refine wpAny_call (codeAny_of_tree ?_)
  change wpAny _ _ (callAny (.type "set") _) _ _ _
  refine wpAny_pure ⟨Code.quiet_builtin _ (by decide +kernel), ?_⟩
  refine codeAny_builtin F.entry_type_call ?_
  rw [Around.under_plain (weight_type_call_type "set" [Value.ref l] []) rfl]
  have m4 := F.called_set.notType; have m5 := F.called_set.canCreate; have m6 := F.typeCall_set_1 (.ref l)
  repeat (any_goals (first | wp_step | assumption))
  refine codeAny_mono (code_set_led1 (.ref l) (E := E) (Q₁ := fun v z => v = .ref s.heap.objs.size ∧ z = { s with heap := s.heap.push S0 }) ⟨rfl, rfl⟩) fun r z hr => ?_
  match r, hr with
  | .error e, hr => exact hr
  | .ok .next, hr => exact hr.elim
  | .ok .brk, hr => exact hr.elim
  | .ok .cont, hr => exact hr.elim
  | .ok (.ret v), hr =>
    obtain ⟨rfl, rfl⟩ := hr
    have at0 : (s.heap.push S0).get? s.heap.objs.size = some S0 := Heap.get?_push_size _ rfl
    have ty0 : Shared.TypeIs { s with heap := s.heap.push S0 } (.ref s.heap.objs.size) "set" := ⟨_, at0, rfl⟩
    have i1 := F.called_set.init.lookup; have i2 := F.called_set.init.bind (.ref s.heap.objs.size)
    repeat (any_goals (first | wp_step | assumption))
    refine codeAny_mono (codeAny_call_builtin (R := wants (fun r z => r = .none ∧ ∃ h' tk c, z = { s with heap := h', toks := tk } ∧ SetR w h' s.heap.objs.size (fun j => decide (j ∈ ns)) c ∧ (∀ b o, s.heap.get? b = some o → h'.get? b = some o)) E)
      F.called_set.init.plain F.entry_set_init (check_set_init_1 ty0 ?_)) fun r2 z2 hr2 => ?_
    · obtain ⟨⟨oc, od, oda, osl⟩, g0, g1, nn, g2⟩ := hl
      simp only at g1 g2
      subst g1; subst g2
      have old : (s.heap.push S0).get? l = some { cls := .type "list", dict := od, data := .seq xs nn, slots := osl } := Heap.get?_push_of_some _ g0
      have n1 := F.sub_list_set; have n2 := F.sub_list_frozenset
      have n3 : (Value.type "list" == Value.type "dict") = false := by decide
      have li : (s.heap.push S0).IsList l xs := ⟨_, old, rfl, nn, rfl⟩
      unfold Builtin.«set.__init__» noKeywords Builtin.Frozenset.updateFrom
      generalize hPI : pyIter = PI
      wp_walk
      subst hPI
      refine wpAny_pyIter_list li (wpAny_bind (wpAny_runValue ?_))
      have l0 : l < s.heap.objs.size := Heap.lt_size g0
      have hd0 : A.in1.in1.in1.handled = none := by simp [hh]
      have sz1 : (s.heap.push S0).objs.size = s.heap.objs.size + 1 := Heap.size_push ..
      have l1 : l ≠ (s.heap.push S0).objs.size := by rw [sz1]; exact Nat.ne_of_lt (Nat.lt_succ_of_lt l0)
      have s1 : s.heap.objs.size ∉ [(s.heap.push S0).objs.size, l] := by
        rw [sz1]
        simp only [List.mem_cons, List.not_mem_nil, or_false, not_or]
        exact ⟨Nat.ne_of_lt (Nat.lt_succ_self _), Nat.ne_of_gt l0⟩
      have items : ∀ (i : Nat) (v : Value), xs[i]? = some v → ∃ k t, ns[i]? = some k ∧ v = .int k t := fun i v hv => by
        have lt : i < ns.length := by rw [← size_eq]; exact (Array.getElem?_eq_some_iff.mp hv).1
        obtain ⟨t, e⟩ := PyProof.Rows.IntsAre.int_at hit i v (by rw [Array.getElem?_toList]; exact hv)
        exact ⟨ns[i], t, List.getElem?_eq_getElem lt, by rw [e, List.getD_eq_getElem?_getD, List.getElem?_eq_getElem lt]; rfl⟩
      refine set_update_ints ((Walks.list hd0 _ l l1 xs).toS) s.heap.objs.size s1 ns size_eq hb items (xs.size - 0) 0 _ (by omega) (Nat.zero_le _) ⟨⟨_, Heap.get?_push_size _ rfl, rfl, rfl⟩, (li.push _)⟩ ?first ?last
      case first => exact ⟨0, Nat.le_refl 0, setR_new_at (Heap.get?_push_of_some _ at0)⟩
      case last =>
        intro z c hm _ hz
        obtain ⟨h', g2, d', tk', os'⟩ := z
        obtain rfl : g2 = s.gens := hm.gens
        obtain rfl : d' = s.drawn := hm.drawn
        obtain rfl : os' = s.os := hm.os
        show wpAny _ _ _ _ _ _
        refine wpAny_pure (?_ : wpAny _ _ (ret Value.none) _ _ _)
        refine wpAny_pure ⟨rfl, h', tk', c, rfl, hz, fun b o e => ?_⟩
        have b0 := Heap.lt_size e
        refine hm.heap b o ?_ (Heap.get?_push_of_some _ (Heap.get?_push_of_some _ e))
        rw [sz1]
        simp only [List.mem_cons, List.not_mem_nil, or_false, not_or]
        exact ⟨Nat.ne_of_lt b0, Nat.ne_of_lt (Nat.lt_succ_of_lt b0)⟩
    · match r2, hr2 with
      | .error e, hr2 => exact hr2
      | .ok .next, hr2 => exact hr2.elim
      | .ok .brk, hr2 => exact hr2.elim
      | .ok .cont, hr2 => exact hr2.elim
      | .ok (.ret v2), hr2 =>
        obtain ⟨rfl, h', tk, c, rfl, hz, hk⟩ := hr2
        repeat (any_goals (first | wp_step | assumption))
        exact q _ _ _ hz hk
end
theorem SetR.list {w : World} {h : Heap} {a : Addr} {S : Int → Bool} {n : Nat} (R : SetR w h a S n) : ∃ ds : List Int, ds.Nodup ∧ (∀ z, z ∈ ds ↔ S z = true) ∧ ds.length = n := by
  obtain ⟨o, es, ep, t, _, _, _, _, nd, m, _, _, e, _⟩ := R
  exact ⟨es.toList.map keyOf, nd, fun z => (m z).symm, by rw [List.length_map, Array.length_toList]; exact e⟩
/-- set(xs), xs a list of ints -/
def rSetI (K : PySem.W.Frag) (w : World) : List V → Hp → VK → Prop := fun vs H Q => ∃ (a : Addr) (ns : List Int), vs = [.ref a] ∧ SqL K H a (ns.map V.int) ∧ ns.length + 1 < scanBound ∧
  ∀ (p : Addr) (ds : List Int), ds.Nodup → (∀ z, z ∈ ds ↔ z ∈ ns) → H p = none → Q (.ref p) (upd H p (SetO w p (fun j => decide (j ∈ ns)) ds.length))
theorem call_setI {X : Cx} (hc : X.calm = true) : CallR X (.type "set") (rSetI X.K X.w) := by
  intro pins s σ H vs us Q I r h
  obtain ⟨a, ns, rfl, hS, hb, q⟩ := h
  obtain ⟨its, rv, pl, hz⟩ := I.list hS
  rw [Vals.ref1 r]
  refine set_of_ints (xs := its.toArray) ns (I.ok.hd hc) pl.isList (Vals.ints rv) hb fun h' tk c R k => ?_
  obtain ⟨ds, nd, m, e⟩ := SetR.list R
  have hn : H s.heap.objs.size = none := I.hok.fresh (Nat.le_refl _)
  refine ⟨.ref s.heap.objs.size, upd H s.heap.objs.size (SetO X.w s.heap.objs.size (fun j => decide (j ∈ ns)) c), I.laid (t' := tk) k (Nat.le_refl _) (setO_new R), rfl, ?_⟩
  have q' := q s.heap.objs.size ds nd (fun z => by rw [m z]; simp) hn
  rwa [e] at q'
end My

set_option Elab.async false
set_option linter.all false
set_option maxRecDepth 100000
/-! My trees: nested tuples (field, less, same, more) with texts at their ends; how they lie in a heap. -/
namespace My
open PySem PySem.Spec PyProof.Rows L2

/-! ### answers of built-ins -/
section
variable {K : PySem.W.Frag}
theorem k_ss : PySem.W.kitOne K (.type "str") (.type "str") = some true := kit_ty (by decide +kernel)
theorem k_ts : PySem.W.kitOne K (.type "tuple") (.type "str") = some false := kit_ty (by decide +kernel)
theorem k_tt : PySem.W.kitOne K (.type "tuple") (.type "tuple") = some true := kit_ty (by decide +kernel)
theorem k_st : PySem.W.kitOne K (.type "str") (.type "tuple") = some false := kit_ty (by decide +kernel)
theorem k_ii : PySem.W.kitOne K (.type "int") (.type "int") = some true := kit_ty (by decide +kernel)
theorem k_ib : PySem.W.kitOne K (.type "int") (.type "bool") = some false := kit_ty (by decide +kernel)
theorem k_ll : PySem.W.kitOne K (.type "list") (.type "list") = some true := kit_ty (by decide +kernel)
theorem k_bb : PySem.W.kitOne K (.type "bool") (.type "bool") = some true := kit_ty (by decide +kernel)
end
theorem small {n : Nat} (h : n ≤ 100000) : n ≤ sizeLine := by rw [sizeLine_eq]; omega
theorem smallLt {n : Nat} (h : n ≤ 100000) : n < sizeLine := by rw [sizeLine_eq]; omega
theorem map_ne {α β : Type} {f : α → β} {l : List α} (h : l ≠ []) : l.map f ≠ [] := fun e => h (List.map_eq_nil_iff.mp e)

/-! ### cutting a reading -/
/-- a test with what holds behind it -/
theorem if_split {tc : TT} {t u : TS} {D : Ends} {σ : L2.St} {H : Hp} (C : Bool → Hp → Prop) (h : ∀ Q : Bool → Hp → Prop, (∀ b H1, C b H1 → Q b H1) → tc σ H Q)
    (ht : ∀ H1, C true H1 → t D σ H1) (hf : ∀ H1, C false H1 → u D σ H1) : tIfS tc t u D σ H := h _ fun b H1 c => by
  cases b
  · exact iteF (hf H1 c)
  · exact iteT (ht H1 c)
/-- a statement that goes on, with what holds behind it -/
theorem st_split {t u : TS} {D : Ends} {σ : L2.St} {H : Hp} (C : L2.St → Hp → Prop) (h : ∀ D' : Ends, (∀ σ' H', C σ' H' → D'.nx σ' H') → t D' σ H) (q : ∀ σ' H', C σ' H' → u D σ' H') : tSeq t u D σ H := h _ q

/-! ### the law's tape: two numbers, not below 0 -/
def Tape (H : Hp) (t : Addr) : Prop := ∃ c k : Int, H t = some (.lst [.int c, .int k]) ∧ 0 ≤ c ∧ 0 ≤ k
theorem Tape.lst {H : Hp} {t : Addr} (h : Tape H t) : ∃ l, H t = some (.lst l) := by
  obtain ⟨c, k, h, _⟩ := h
  exact ⟨_, h⟩
theorem Tape.same {H H' : Hp} {t : Addr} (h : Tape H t) (e : Same H H') : Tape H' t := by
  obtain ⟨c, k, h, q⟩ := h
  exact ⟨c, k, e _ _ h, q⟩
theorem Tape.ne {H : Hp} {t p : Addr} (h : Tape H t) (n : H p = none) : p ≠ t := by
  obtain ⟨l, h⟩ := h.lst
  exact fun e => ne_of_none h n e.symm
theorem Tape.but {H H' : Hp} {t u : Addr} (h : Tape H t) (b : But u H H') (n : t ≠ u) : Tape H' t := by
  obtain ⟨c, k, h, q⟩ := h
  exact ⟨c, k, b _ _ n h, q⟩
theorem Tape.upd {H : Hp} {t D : Addr} {o : HO} (h : Tape H t) (n : D ≠ t) : Tape (L2.upd H D o) t := by
  obtain ⟨c, k, h, q⟩ := h
  exact ⟨c, k, by rw [upd_ne n.symm]; exact h, q⟩
/-- a store to what came later -/
theorem But.later {t D : Addr} {H H' : Hp} {o : HO} (b : But t H H') (n : H D = none) : But t H (L2.upd H' D o) := fun c u ne q => by rw [upd_ne (ne_of_none q n)]; exact b c u ne q
theorem _root_.L2.Same.later {D : Addr} {H H' : Hp} {o : HO} (b : Same H H') (n : H D = none) : Same H (L2.upd H' D o) := fun c u q => by rw [upd_ne (ne_of_none q n)]; exact b c u q
theorem But.free {t D : Addr} {H H' : Hp} (b : But t H H') (n : H' D = none) (ne : D ≠ t) : H D = none := by
  cases q : H D with
  | none => rfl
  | some o => rw [b D o ne q] at n; cases n
/-! ### rules within a comprehension: the written part said outright -/
section
variable {X : Cx} {K : PySem.W.Frag}
theorem ix_listK (h : X.K = K) : IxR X (rIxL K) := h ▸ ix_list
theorem ix_tupK (h : X.K = K) : IxR X (rIxT K) := h ▸ ix_tup
theorem ix_seqK (h : X.K = K) : IxR X (rIx K) := h ▸ ix_seq
theorem isiK (h : X.K = K) : CallR X (.builtin "isinstance") (rIsi K) := h ▸ call_isi
def rLen (K : PySem.W.Frag) : List V → Hp → VK → Prop := fun xs H Q => ∃ p ys, xs = [.ref p] ∧ (SqL K H p ys ∨ SqT K H p ys) ∧ Q (.int ys.length) H
theorem lenK (h : X.K = K) : CallR X (.builtin "len") (rLen K) := h ▸ call_len_seq
def rListOf (K : PySem.W.Frag) : List V → Hp → VK → Prop := fun xs H Q => ∃ p ys, xs = [.ref p] ∧ (SqL K H p ys ∨ SqT K H p ys) ∧ ∀ l, H l = none → Q (.ref l) (upd H l (.lst ys))
theorem listOfK (h : X.K = K) : CallR X (.type "list") (rListOf K) := h ▸ call_list_of
def rTupleOf (K : PySem.W.Frag) : List V → Hp → VK → Prop := fun xs H Q => ∃ p ys, xs = [.ref p] ∧ ((SqL K H p ys ∧ ∀ l, H l = none → Q (.ref l) (upd H l (.tup ys))) ∨ (SqT K H p ys ∧ Q (.ref p) H))
theorem tupleOfK (h : X.K = K) : CallR X (.type "tuple") (rTupleOf K) := h ▸ call_tuple_of
theorem in_seqK (h : X.K = K) : OpR X (compareOp .In) (rIn K false) := h ▸ op_in_seq
theorem notIn_seqK (h : X.K = K) : OpR X (compareOp .NotIn) (rIn K true) := h ▸ op_notIn_seq
theorem sl_listK (h : X.K = K) : SlR X (rSlL K) := h ▸ sl_list
theorem sl_tupK (h : X.K = K) : SlR X (rSlT K) := h ▸ sl_tup
theorem catTK (h : X.K = K) : OpR X (binaryOp .Add) (rCatT K) := h ▸ op_catT
theorem eqDK (hu : X.A.units + 64 < cLine) (h : X.K = K) : OpR X (compareOp .Eq) (rEqD K) := h ▸ op_eqD hu
theorem neDK (hu : X.A.units + 64 < cLine) (h : X.K = K) : OpR X (compareOp .NotEq) (rNeD K) := h ▸ op_neD hu
end
def spTake : Sp := fun vs H Q _ => ∃ (t : Addr) (n : Int), vs = [.ref t, .int n] ∧ Tape H t ∧ 0 < n ∧ n < 1073741824 ∧
  ∀ (H' : Hp) (r : Int), But t H H' → Tape H' t → 0 ≤ r → r < n → Q (.int r) H'
def spTape (K : PySem.W.Frag) : Sp := fun vs H Q _ => ∃ (a : Addr) (ns : List Int) (k : Int), vs = [.ref a, .int k] ∧ SqL K H a (ns.map V.int) ∧ 0 ≤ k ∧
  ∀ (t : Addr) (c : Int), H t = none → 0 ≤ c → Q (.ref t) (upd H t (.lst [.int c, .int 0]))
theorem tape_new {H : Hp} {t : Addr} {c : Int} (h : 0 ≤ c) : Tape (upd H t (.lst [.int c, .int 0])) t := ⟨c, 0, upd_same, h, Int.le_refl 0⟩

/-! ### trees -/
inductive Tr where
  | leaf (s : Str)
  | ask (f : Int) (a b c : Tr)
namespace Tr
def depth : Tr → Nat
  | leaf _ => 0
  | ask _ a b c => max a.depth (max b.depth c.depth) + 1
def asks : Tr → Nat
  | leaf _ => 0
  | ask _ a b c => a.asks + b.asks + c.asks + 1
def ends : Tr → List Str
  | leaf s => [s]
  | ask _ a b c => a.ends ++ b.ends ++ c.ends
def fields : Tr → List Int
  | leaf _ => []
  | ask f a b c => [f] ++ a.fields ++ b.fields ++ c.fields
def pick (x : Int) (a b c : Tr) : Tr := if x = -1 then a else if x = 0 then b else c
/-- the sign of a field in a row -/
def sgn (rs : List Int) (f : Int) : Int := rs.getD f.toNat 0
def follow (rs : List Int) : Tr → Str
  | leaf s => s
  | ask f a b c => if sgn rs f = -1 then a.follow rs else if sgn rs f = 0 then b.follow rs else c.follow rs
/-- every asked field lies in 0 .. n-1 -/
def Below (n : Int) : Tr → Prop
  | leaf _ => True
  | ask f a b c => 0 ≤ f ∧ f < n ∧ a.Below n ∧ b.Below n ∧ c.Below n
/-- every end is one of the two words -/
def Two : Tr → Prop
  | leaf s => s = "older" ∨ s = "newer"
  | ask _ a b c => a.Two ∧ b.Two ∧ c.Two
theorem ends_len : ∀ t : Tr, t.ends.length = 2 * t.asks + 1
  | leaf _ => rfl
  | ask f a b c => by
    have h1 := ends_len a; have h2 := ends_len b; have h3 := ends_len c
    simp only [ends, asks, List.length_append]; omega
theorem fields_len : ∀ t : Tr, t.fields.length = t.asks
  | leaf _ => rfl
  | ask f a b c => by
    have h1 := fields_len a; have h2 := fields_len b; have h3 := fields_len c
    simp only [fields, asks, List.length_append, List.length_cons, List.length_nil]; omega
theorem ends_ne (t : Tr) : t.ends ≠ [] := fun e => by
  have h := ends_len t
  rw [e, List.length_nil] at h
  omega
theorem depth_le : ∀ t : Tr, t.depth ≤ t.asks
  | leaf _ => Nat.le_refl _
  | ask f a b c => by
    have h1 := depth_le a; have h2 := depth_le b; have h3 := depth_le c
    simp only [depth, asks]; omega
theorem below_mem : ∀ {t : Tr} {n : Int}, t.Below n → ∀ z ∈ t.fields, 0 ≤ z ∧ z < n
  | leaf _, _, _, z, h => by cases h
  | ask f a b c, n, ⟨h1, h2, h3, h4, h5⟩, z, h => by
    simp only [fields, List.mem_append, List.mem_singleton] at h
    rcases h with ((h | h) | h) | h
    · subst h; exact ⟨h1, h2⟩
    · exact below_mem h3 z h
    · exact below_mem h4 z h
    · exact below_mem h5 z h
theorem Below.mono : ∀ {t : Tr} {n m : Int}, t.Below n → n ≤ m → t.Below m
  | leaf _, _, _, _, _ => trivial
  | ask f a b c, n, m, ⟨h1, h2, h3, h4, h5⟩, h => ⟨h1, by omega, h3.mono h, h4.mono h, h5.mono h⟩
def clash (w : Str) : Tr → Tr
  | leaf s => leaf (if s = w then "clash" else s)
  | ask f a b c => ask f (a.clash w) (b.clash w) (c.clash w)
theorem clash_depth (w : Str) : ∀ t : Tr, (t.clash w).depth = t.depth
  | leaf s => rfl
  | ask f a b c => by simp only [clash, depth, clash_depth w a, clash_depth w b, clash_depth w c]
theorem clash_asks (w : Str) : ∀ t : Tr, (t.clash w).asks = t.asks
  | leaf s => rfl
  | ask f a b c => by simp only [clash, asks, clash_asks w a, clash_asks w b, clash_asks w c]
theorem clash_below (w : Str) {n : Int} : ∀ {t : Tr}, t.Below n → (t.clash w).Below n
  | leaf s, _ => trivial
  | ask f a b c, ⟨h1, h2, h3, h4, h5⟩ => ⟨h1, h2, clash_below w h3, clash_below w h4, clash_below w h5⟩
/-- of a list of trees -/
def endsL : List Tr → List Str
  | [] => []
  | t :: ts => t.ends ++ endsL ts
def fieldsL : List Tr → List Int
  | [] => []
  | t :: ts => t.fields ++ fieldsL ts
def nodesL : List Tr → Nat
  | [] => 0
  | t :: ts => 3 * t.asks + 1 + nodesL ts
theorem fieldsL_app : ∀ a b : List Tr, fieldsL (a ++ b) = fieldsL a ++ fieldsL b
  | [], b => rfl
  | t :: a, b => by rw [List.cons_append, fieldsL, fieldsL, fieldsL_app a b, List.append_assoc]
theorem nodesL_app : ∀ a b : List Tr, nodesL (a ++ b) = nodesL a + nodesL b
  | [], b => by rw [List.nil_append, nodesL, Nat.zero_add]
  | t :: a, b => by rw [List.cons_append, nodesL, nodesL, nodesL_app a b]; omega
theorem nodesL_len : ∀ a : List Tr, a.length ≤ nodesL a
  | [] => Nat.le_refl _
  | t :: a => by have := nodesL_len a; simp only [List.length_cons, nodesL]; omega
end Tr
theorem asc_nodup {l : List Int} (h : l.Pairwise (· < ·)) : l.Nodup := h.imp fun h => by omega
/-- ascending lists with the same members are one -/
theorem asc_same : ∀ {a b : List Int}, a.Pairwise (· < ·) → b.Pairwise (· < ·) → (∀ k, k ∈ a ↔ k ∈ b) → a = b
  | [], [], _, _, _ => rfl
  | [], y :: b, _, _, m => by have := (m y).mpr (List.mem_cons_self ..); cases this
  | x :: a, [], _, _, m => by have := (m x).mp (List.mem_cons_self ..); cases this
  | x :: a, y :: b, ha, hb, m => by
    obtain ⟨h1, h2⟩ := List.pairwise_cons.mp ha
    obtain ⟨k1, k2⟩ := List.pairwise_cons.mp hb
    have e : x = y := by
      rcases List.mem_cons.mp ((m x).mp (List.mem_cons_self ..)) with z | z
      · exact z
      · rcases List.mem_cons.mp ((m y).mpr (List.mem_cons_self ..)) with u | u
        · exact u.symm
        · have := h1 y u; have := k1 x z; omega
    subst e
    rw [asc_same h2 k2 fun k => ?_]
    constructor
    · intro z
      rcases List.mem_cons.mp ((m k).mp (List.mem_cons_of_mem _ z)) with u | u
      · have := h1 k z; omega
      · exact u
    · intro z
      rcases List.mem_cons.mp ((m k).mpr (List.mem_cons_of_mem _ z)) with u | u
      · have := k1 k z; omega
      · exact u
theorem le_nodup_lt : ∀ {l : List Int}, l.Pairwise (· ≤ ·) → l.Nodup → l.Pairwise (· < ·)
  | [], _, _ => .nil
  | x :: l, h, n => by
    obtain ⟨h1, h2⟩ := List.pairwise_cons.mp h
    obtain ⟨n1, n2⟩ := List.nodup_cons.mp n
    refine List.pairwise_cons.mpr ⟨fun y hy => ?_, le_nodup_lt h2 n2⟩
    have a := h1 y hy
    have b : x ≠ y := fun e => n1 (e ▸ hy)
    omega
/-! ### how a tree lies -/
inductive TreeAt (H : Hp) : V → Tr → Prop where
  | leaf (s : Str) : TreeAt H (.str s) (.leaf s)
  | ask {p : Addr} {f : Int} {va vb vc : V} {a b c : Tr} (h : H p = some (.tup [.int f, va, vb, vc])) (ha : TreeAt H va a) (hb : TreeAt H vb b) (hc : TreeAt H vc c) : TreeAt H (.ref p) (.ask f a b c)
theorem TreeAt.keep {H H' : Hp} {v : V} {t : Tr} (k : ∀ p xs, H p = some (.tup xs) → H' p = some (.tup xs)) (h : TreeAt H v t) : TreeAt H' v t := by
  induction h with
  | leaf s => exact .leaf s
  | ask h _ _ _ i1 i2 i3 => exact .ask (k _ _ h) i1 i2 i3
theorem TreeAt.same {H H' : Hp} {v : V} {t : Tr} (h : TreeAt H v t) (e : Same H H') : TreeAt H' v t := h.keep fun p xs q => e p _ q
theorem TreeAt.but {H H' : Hp} {v : V} {t : Tr} {a : Addr} {l : List V} (h : TreeAt H v t) (b : But a H H') (ha : H a = some (.lst l)) : TreeAt H' v t := h.keep fun p xs q => b.tup ha q
/-- a tree that is an ask is a tuple -/
theorem TreeAt.inv {H : Hp} {v : V} {f : Int} {a b c : Tr} (h : TreeAt H v (.ask f a b c)) : ∃ p va vb vc, v = .ref p ∧ H p = some (.tup [.int f, va, vb, vc]) ∧ TreeAt H va a ∧ TreeAt H vb b ∧ TreeAt H vc c := by
  cases h with
  | ask h ha hb hc => exact ⟨_, _, _, _, rfl, h, ha, hb, hc⟩
theorem TreeAt.invL {H : Hp} {v : V} {s : Str} (h : TreeAt H v (.leaf s)) : v = .str s := by
  cases h; rfl
theorem TreeAt.tape {H H' : Hp} {v : V} {x : Tr} {t : Addr} (h : TreeAt H v x) (b : But t H H') (ha : Tape H t) : TreeAt H' v x := by
  obtain ⟨l, q⟩ := ha.lst
  exact h.but b q
theorem atI_0 (a b c d : V) : atI [a, b, c, d] 0 = some a := rfl
theorem atI_1 (a b c d : V) : atI [a, b, c, d] 1 = some b := rfl
theorem atI_2 (a b c d : V) : atI [a, b, c, d] 2 = some c := rfl
theorem atI_3 (a b c d : V) : atI [a, b, c, d] 3 = some d := rfl
theorem sgn_at {rs : List Int} {f : Int} (h0 : 0 ≤ f) (h1 : f < (rs.length : Int)) : atI (rs.map V.int) f = some (.int (Tr.sgn rs f)) := by
  have e : f = ((f.toNat : Nat) : Int) := by omega
  have hk : f.toNat < rs.length := by omega
  have q : atI (rs.map V.int) ((f.toNat : Nat) : Int) = some (.int (rs.getD f.toNat 0)) := atI_nat (by rw [List.getElem?_map, List.getElem?_eq_getElem hk, List.getD_eq_getElem?_getD, List.getElem?_eq_getElem hk]; rfl)
  rw [← e] at q
  exact q
theorem sgn_in {rs : List Int} {f : Int} (h0 : 0 ≤ f) (h1 : f < (rs.length : Int)) : Tr.sgn rs f ∈ rs := by
  have hk : f.toNat < rs.length := by omega
  unfold Tr.sgn
  rw [List.getD_eq_getElem?_getD, List.getElem?_eq_getElem hk]
  exact List.getElem_mem hk
/-- a list of trees -/
abbrev TreesAt (H : Hp) : List V → List Tr → Prop := Paired (TreeAt H)
theorem TreesAt.keep {H H' : Hp} {vs : List V} {ts : List Tr} (k : ∀ p xs, H p = some (.tup xs) → H' p = some (.tup xs)) (h : TreesAt H vs ts) : TreesAt H' vs ts := Paired.mapP h fun _ _ q => q.keep k

theorem upd_tup {H : Hp} {a p : Addr} {l : List V} {o : HO} {xs : List V} (h : H a = some (.lst l)) (e : H p = some (.tup xs)) : upd H a o p = some (.tup xs) := by
  rw [upd_ne (ne_of e h (by intro z; cases z))]; exact e
theorem new_tup {H : Hp} {a p : Addr} {o : HO} {xs : List V} (h : H a = none) (e : H p = some (.tup xs)) : upd H a o p = some (.tup xs) := by
  rw [upd_ne (ne_of_none e h)]; exact e
theorem inV_int (k : Int) (l : List Int) : inV (.int k) (l.map V.int) = decide (k ∈ l) := by
  unfold inV
  rw [List.any_map]
  induction l with
  | nil => rfl
  | cons a l ih =>
    rw [List.any_cons, ih]
    simp only [Function.comp, eqV, List.mem_cons]
    by_cases e : a = k
    · subst e; simp
    · have e2 : ¬ k = a := fun z => e z.symm
      simp [e, e2]
theorem flat_ints (l : List Int) : (l.map V.int).all flatV = true := by
  rw [List.all_map]; exact List.all_eq_true.mpr fun _ _ => rfl
theorem dpInts {K : PySem.W.Frag} {H : Hp} : ∀ l : List Int, DpAll K H (l.map V.int) (l.map PyData.int)
  | [] => .nil
  | x :: l => .cons (.int x) (dpInts l)
theorem canInts : ∀ l : List Int, (PyData.list (l.map PyData.int)).canLay0 = true := fun l => by
  have : ∀ l : List Int, PyData.canLayAll0 (l.map PyData.int) = true := fun l => by
    induction l with
    | nil => rfl
    | cons x l ih => simp only [List.map_cons, PyData.canLayAll0, PyData.canLay0, Bool.true_and]; exact ih
  simp only [PyData.canLay0]
  exact this l
theorem depthInts : ∀ l : List Int, (PyData.list (l.map PyData.int)).depth ≤ 64 := fun l => by
  have : ∀ l : List Int, PyData.depthAll (l.map PyData.int) ≤ 1 := fun l => by
    induction l with
    | nil => simp [PyData.depthAll]
    | cons x l ih => simp only [List.map_cons, PyData.depthAll, PyData.depth]; omega
  have := this l
  simp only [PyData.depth]
  omega
theorem shapedInts (l : List Int) : SeqAt.shaped (PyData.list (l.map PyData.int)) = true := by
  unfold SeqAt.shaped
  rw [canInts l, decide_eq_true (depthInts l)]
  rfl
end My

set_option Elab.async false
set_option linter.all false
set_option maxRecDepth 100000
namespace Law
open PySem PySem.Spec PyProof.Rows L2 My
def topS (i : Nat) : Stmt := PySem.Challenge.pw_fieldrides_k01_follow_a_tree.main.body.getD i (.Pass ⟨0, 0, 0, 0⟩)
abbrev s_branch : Stmt := topS 1
abbrev N_branch : List Str := ["tree", "mark"]
abbrev P_branch : List Str := ["tree", "mark"]
theorem sc_branch : FnScope N_branch P_branch (defScope s_branch) := ⟨rfl, rfl, rfl, by decide +kernel, rfl, by decide +kernel, by decide +kernel⟩
abbrev s_follow : Stmt := topS 2
abbrev N_follow : List Str := ["tree", "row"]
abbrev P_follow : List Str := ["tree", "row"]
theorem sc_follow : FnScope N_follow P_follow (defScope s_follow) := ⟨rfl, rfl, rfl, by decide +kernel, rfl, by decide +kernel, by decide +kernel⟩
abbrev s_ends : Stmt := topS 3
abbrev N_ends : List Str := ["tree"]
abbrev P_ends : List Str := ["tree"]
theorem sc_ends : FnScope N_ends P_ends (defScope s_ends) := ⟨rfl, rfl, rfl, by decide +kernel, rfl, by decide +kernel, by decide +kernel⟩
abbrev s_all_asks : Stmt := topS 4
abbrev N_all_asks : List Str := ["tree"]
abbrev P_all_asks : List Str := ["tree"]
theorem sc_all_asks : FnScope N_all_asks P_all_asks (defScope s_all_asks) := ⟨rfl, rfl, rfl, by decide +kernel, rfl, by decide +kernel, by decide +kernel⟩
abbrev s_asked : Stmt := topS 5
abbrev N_asked : List Str := ["tree"]
abbrev P_asked : List Str := ["tree"]
theorem sc_asked : FnScope N_asked P_asked (defScope s_asked) := ⟨rfl, rfl, rfl, by decide +kernel, rfl, by decide +kernel, by decide +kernel⟩
abbrev s__law_tape : Stmt := topS 7
abbrev N__law_tape : List Str := ["_law_script", "_law_k"]
abbrev P__law_tape : List Str := ["_law_script", "_law_k"]
theorem sc__law_tape : FnScope N__law_tape P__law_tape (defScope s__law_tape) := ⟨rfl, rfl, rfl, by decide +kernel, rfl, by decide +kernel, by decide +kernel⟩
abbrev s__law_take : Stmt := topS 8
abbrev N__law_take : List Str := ["_law_tape_here", "_law_size", "_law_cell", "_law_k", "_law_mixed"]
abbrev P__law_take : List Str := ["_law_tape_here", "_law_size"]
theorem sc__law_take : FnScope N__law_take P__law_take (defScope s__law_take) := ⟨rfl, rfl, rfl, by decide +kernel, rfl, by decide +kernel, by decide +kernel⟩
abbrev s__law_tree : Stmt := topS 9
abbrev N__law_tree : List Str := ["_law_tape_here", "_law_n", "_law_levels", "_law_field", "_law_less", "_law_same", "_law_more"]
abbrev P__law_tree : List Str := ["_law_tape_here", "_law_n", "_law_levels"]
theorem sc__law_tree : FnScope N__law_tree P__law_tree (defScope s__law_tree) := ⟨rfl, rfl, rfl, by decide +kernel, rfl, by decide +kernel, by decide +kernel⟩
abbrev s__law_wide : Stmt := topS 10
abbrev N__law_wide : List Str := ["_law_tape_here", "_law_n", "_law_tree_here", "_law_layers", "_law_k"]
abbrev P__law_wide : List Str := ["_law_tape_here", "_law_n", "_law_tree_here", "_law_layers"]
theorem sc__law_wide : FnScope N__law_wide P__law_wide (defScope s__law_wide) := ⟨rfl, rfl, rfl, by decide +kernel, rfl, by decide +kernel, by decide +kernel⟩
abbrev s__law_row : Stmt := topS 11
abbrev N__law_row : List Str := ["_law_tape_here", "_law_n", "_law_k"]
abbrev P__law_row : List Str := ["_law_tape_here", "_law_n"]
theorem sc__law_row : FnScope N__law_row P__law_row (defScope s__law_row) := ⟨rfl, rfl, rfl, by decide +kernel, rfl, by decide +kernel, by decide +kernel⟩
abbrev s__law_vine : Stmt := topS 12
abbrev N__law_vine : List Str := ["_law_tape_here", "_law_n", "_law_asks", "_law_row_here", "_law_tree_here", "_law_k", "_law_field", "_law_place", "_law_branches", "_law_m"]
abbrev P__law_vine : List Str := ["_law_tape_here", "_law_n", "_law_asks", "_law_row_here"]
theorem sc__law_vine : FnScope N__law_vine P__law_vine (defScope s__law_vine) := ⟨rfl, rfl, rfl, by decide +kernel, rfl, by decide +kernel, by decide +kernel⟩
abbrev s__law_clashing : Stmt := topS 13
abbrev N__law_clashing : List Str := ["_law_tree_here", "_law_word", "_law_parts", "_law_k"]
abbrev P__law_clashing : List Str := ["_law_tree_here", "_law_word"]
theorem sc__law_clashing : FnScope N__law_clashing P__law_clashing (defScope s__law_clashing) := ⟨rfl, rfl, rfl, by decide +kernel, rfl, by decide +kernel, by decide +kernel⟩
abbrev s__law_follow : Stmt := topS 14
abbrev N__law_follow : List Str := ["_law_tree_here", "_law_row_here", "_law_k"]
abbrev P__law_follow : List Str := ["_law_tree_here", "_law_row_here"]
theorem sc__law_follow : FnScope N__law_follow P__law_follow (defScope s__law_follow) := ⟨rfl, rfl, rfl, by decide +kernel, rfl, by decide +kernel, by decide +kernel⟩
abbrev s__law_ends : Stmt := topS 15
abbrev N__law_ends : List Str := ["_law_tree_here", "_law_left", "_law_found", "_law_k", "_law_part"]
abbrev P__law_ends : List Str := ["_law_tree_here"]
theorem sc__law_ends : FnScope N__law_ends P__law_ends (defScope s__law_ends) := ⟨rfl, rfl, rfl, by decide +kernel, rfl, by decide +kernel, by decide +kernel⟩
abbrev s__law_asked : Stmt := topS 16
abbrev N__law_asked : List Str := ["_law_tree_here", "_law_left", "_law_fields", "_law_k", "_law_part"]
abbrev P__law_asked : List Str := ["_law_tree_here"]
theorem sc__law_asked : FnScope N__law_asked P__law_asked (defScope s__law_asked) := ⟨rfl, rfl, rfl, by decide +kernel, rfl, by decide +kernel, by decide +kernel⟩
abbrev s__law_is_integer : Stmt := topS 17
abbrev N__law_is_integer : List Str := ["_law_actual"]
abbrev P__law_is_integer : List Str := ["_law_actual"]
theorem sc__law_is_integer : FnScope N__law_is_integer P__law_is_integer (defScope s__law_is_integer) := ⟨rfl, rfl, rfl, by decide +kernel, rfl, by decide +kernel, by decide +kernel⟩
abbrev s__law_is_ascending : Stmt := topS 18
abbrev N__law_is_ascending : List Str := ["_law_actual", "_law_n", "_law_last", "_law_value"]
abbrev P__law_is_ascending : List Str := ["_law_actual", "_law_n"]
theorem sc__law_is_ascending : FnScope N__law_is_ascending P__law_is_ascending (defScope s__law_is_ascending) := ⟨rfl, rfl, rfl, by decide +kernel, rfl, by decide +kernel, by decide +kernel⟩
abbrev s__law_are_words : Stmt := topS 19
abbrev N__law_are_words : List Str := ["_law_actual", "_law_expected", "_law_k"]
abbrev P__law_are_words : List Str := ["_law_actual", "_law_expected"]
theorem sc__law_are_words : FnScope N__law_are_words P__law_are_words (defScope s__law_are_words) := ⟨rfl, rfl, rfl, by decide +kernel, rfl, by decide +kernel, by decide +kernel⟩
abbrev s_law : Stmt := topS 20
abbrev N_law : List Str := ["_law_script", "_law_tape_here", "_law_n", "_law_shape", "_law_levels", "_law_rows", "_law_k", "_law_tree_here", "_law_expected_ends", "_law_expected_fields", "_law_turn", "_law_row_here", "_law_actual"]
abbrev P_law : List Str := ["_law_script"]
theorem sc_law : FnScope N_law P_law (defScope s_law) := ⟨rfl, rfl, rfl, by decide +kernel, rfl, by decide +kernel, by decide +kernel⟩
structure Bts (mg : Str → Option Value) : Prop where
  abs_ : mg "abs" = none
  bool_ : mg "bool" = none
  int_ : mg "int" = none
  isinstance_ : mg "isinstance" = none
  len_ : mg "len" = none
  list_ : mg "list" = none
  range_ : mg "range" = none
  set_ : mg "set" = none
  sorted_ : mg "sorted" = none
  str_ : mg "str" = none
  tuple_ : mg "tuple" = none
section
variable {P : Program} {w : World} {K : PySem.W.Frag} {mg : Str → Option Value} {base : Heap}

/-! ### the program -/
def spBranch : Sp := fun vs H Q _ => ∃ (p : Addr) (m : Int) (xs : List V) (v : V), vs = [.ref p, .int m] ∧ H p = some (.tup xs) ∧ atI xs (m + 2) = some v ∧ Q v H
theorem dn_branch (F : Df K mg "branch" s_branch P_branch) : Dn P w K mg base 1 "branch" spBranch := by
  refine F.ok sc_branch (fun vs H Q E h => ?_) (fun f cdv A outer s H vs Q E hr h => ?_)
  · obtain ⟨p, m, xs, v, rfl, _⟩ := h; rfl
  obtain ⟨p, m, xs, v, rfl, hp, hv, q⟩ := h
  refine ⟨_, (pss_one
        (ps_ret (pe_ix ix_tup (pv 0) (pe_op op_add (pv 1) pe_int) (fun _ _ => rfl)))), ?_⟩
  exact ⟨_, rfl, _, rfl, _, _, rfl, rfl, p, xs, m + 2, v, rfl, rfl, SqT.of hp, hv, q⟩

def spFollow (K : PySem.W.Frag) : Sp := fun vs H Q _ => ∃ (v : V) (r : Addr) (t : Tr) (rs : List Int), vs = [v, .ref r] ∧ TreeAt H v t ∧ SqT K H r (rs.map V.int) ∧ (∀ z ∈ rs, z = -1 ∨ z = 0 ∨ z = 1) ∧ t.Below rs.length ∧
  Q (.str (t.follow rs)) H
theorem dn_follow (B : Bts mg) (F : Df K mg "follow" s_follow P_follow) (D_branch : Dn P w K mg base 1 "branch" spBranch) : Dn P w K mg base 2 "follow" (spFollow K) := by
  refine F.ok sc_follow (fun vs H Q E h => ?_) (fun f cdv A outer s H vs Q E hr h => ?_)
  · obtain ⟨v, r, t, rs, rfl, _⟩ := h; rfl
  obtain ⟨v, r, t, rs, rfl, ht, hr', hs, hb, q⟩ := h
  refine ⟨_, (pss_cons
        (ps_while PassesOwn.never (pt_not (pt_val (pe_callB call_isi rfl B.isinstance_ boot_isinstance (pa_cons (pv 0) (pa_cons (pe_bltn (v := .ty "str") rfl B.str_ boot_str rfl) pa_nil))))) (pss_one
          (ps_set (i := 0) sc_follow.nd rfl (.inl rfl) (My.pe_callD D_branch (hr.mono (by omega)) rfl (pa_cons (pv 0) (pa_cons (pe_ix ix_tup (pv 1) (pe_ix ix_tup (pv 0) pe_int (fun _ _ => rfl)) (fun _ _ => rfl)) pa_nil))))))
        (pss_one
        (ps_ret (pv 0)))), ?_⟩
  refine ⟨fun m σ H' => H' = H ∧ ∃ v' t', σ = [some v', some (.ref r)] ∧ TreeAt H v' t' ∧ t'.depth ≤ m ∧ t'.Below rs.length ∧ t'.follow rs = t.follow rs, ⟨t.depth, rfl, v, t, rfl, ht, Nat.le_refl _, hb, rfl⟩, ?_⟩
  rintro m σ H' ⟨rfl, v', t', rfl, ht', hd, hb', e⟩
  cases t' with
  | leaf s =>
    obtain rfl := ht'.invL
    refine ⟨_, rfl, _, _, _, _, true, rfl, .ty _, .base (.str _), k_ss, ?_⟩
    refine ⟨_, rfl, ?_⟩
    refine iteF ?_
    refine ⟨_, rfl, ?_⟩
    rw [← e] at q
    exact q
  | ask f a b c =>
    obtain ⟨p, va, vb, vc, rfl, hp, ha, hbb, hc⟩ := ht'.inv
    obtain ⟨h1, h2, h3, h4, h5⟩ := hb'
    refine ⟨_, rfl, _, _, _, _, false, rfl, .ty _, .base (.tup hp), k_ts, ?_⟩
    refine ⟨_, rfl, ?_⟩
    refine iteT ?_
    refine ⟨fun σ H'' => H'' = H' ∧ ∃ v' t', σ = [some v', some (.ref r)] ∧ TreeAt H' v' t' ∧ t'.depth < m ∧ t'.Below rs.length ∧ t'.follow rs = t.follow rs, ?_, ?_⟩
    · rintro σ' H'' ⟨rfl, v2, t2, rfl, k1, k2, k3, k4⟩
      exact ⟨t2.depth, k2, rfl, v2, t2, rfl, k1, Nat.le_refl _, k3, k4⟩
    have hat := sgn_at (rs := rs) h1 h2
    have hin := hs _ (sgn_in (rs := rs) h1 h2)
    refine ⟨_, rfl, _, rfl, _, rfl, p, _, _, _, rfl, rfl, SqT.of hp, atI_0 _ _ _ _, r, _, _, _, rfl, rfl, hr', hat, ?_⟩
    simp only [Tr.depth] at hd
    simp only [Tr.follow] at e
    rcases hin with z | z | z
    · rw [z] at e ⊢
      exact ⟨p, -1, _, va, rfl, hp, rfl, rfl, va, a, rfl, ha, by omega, h3, e⟩
    · rw [z] at e ⊢
      exact ⟨p, 0, _, vb, rfl, hp, rfl, rfl, vb, b, rfl, hbb, by omega, h4, e⟩
    · rw [z] at e ⊢
      exact ⟨p, 1, _, vc, rfl, hp, rfl, rfl, vc, c, rfl, hc, by omega, h5, e⟩

/-- the tuple of the ends -/
def spEnds (n : Nat) : Sp := fun vs H Q _ => ∃ (v : V) (t : Tr), vs = [v] ∧ TreeAt H v t ∧ t.depth < n ∧ t.asks ≤ 1000 ∧
  ∀ (p : Addr) (H' : Hp), Same H H' → H' p = some (.tup (t.ends.map V.str)) → Q (.ref p) H'
theorem dn_ends (B : Bts mg) (F : Df K mg "ends" s_ends P_ends) : ∀ n : Nat, Dn P w K mg base n "ends" (spEnds n)
  | 0 => F.none (fun vs H Q E h => by obtain ⟨v, t, _, _, h, _⟩ := h; omega) 0
  | n + 1 => by
    have D_ends := dn_ends B F n
    refine F.ok sc_ends (fun vs H Q E h => ?_) (fun f cdv A outer s H vs Q E hr h => ?_)
    · obtain ⟨v, t, rfl, _⟩ := h; rfl
    obtain ⟨v, t, rfl, ht, hd, hz, q⟩ := h
    refine ⟨_, (pss_cons
          (ps_if (pt_val (pe_callB call_isi rfl B.isinstance_ boot_isinstance (pa_cons (pv 0) (pa_cons (pe_bltn (v := .ty "str") rfl B.str_ boot_str rfl) pa_nil)))) (pss_one
            (ps_ret (pe_tup (pa_cons (pv 0) pa_nil)))) pss_nil)
          (pss_one
          (ps_ret (pe_op op_catT (pe_op op_catT (My.pe_callD D_ends (hr.mono (by omega)) rfl (pa_cons (pe_ix ix_tup (pv 0) pe_int (fun _ _ => rfl)) pa_nil)) (My.pe_callD D_ends (hr.mono (by omega)) rfl (pa_cons (pe_ix ix_tup (pv 0) pe_int (fun _ _ => rfl)) pa_nil))) (My.pe_callD D_ends (hr.mono (by omega)) rfl (pa_cons (pe_ix ix_tup (pv 0) pe_int (fun _ _ => rfl)) pa_nil)))))), ?_⟩
    cases t with
    | leaf s =>
      obtain rfl := ht.invL
      refine ⟨_, rfl, _, _, _, _, true, rfl, .ty _, .base (.str _), k_ss, ?_⟩
      refine ⟨_, rfl, ?_⟩
      refine iteT ?_
      refine ⟨_, rfl, small (by show 1 ≤ 100000; decide), fun p hp => ?_⟩
      exact q p _ (same_new hp _) upd_same
    | ask f a b c =>
      obtain ⟨p, va, vb, vc, rfl, hp, ha, hb, hc⟩ := ht.inv
      simp only [Tr.depth] at hd
      simp only [Tr.asks] at hz
      refine ⟨_, rfl, _, _, _, _, false, rfl, .ty _, .base (.tup hp), k_ts, ?_⟩
      refine ⟨_, rfl, ?_⟩
      refine iteF ?_
      refine ⟨_, rfl, p, _, _, _, rfl, rfl, SqT.of hp, atI_1 _ _ _ _, ?_⟩
      refine ⟨va, a, rfl, ha, by omega, by omega, fun p1 H1 g1 e1 => ?_⟩
      refine ⟨_, rfl, p, _, _, _, rfl, rfl, SqT.of (g1 _ _ hp), atI_2 _ _ _ _, ?_⟩
      refine ⟨vb, b, rfl, hb.same g1, by omega, by omega, fun p2 H2 g2 e2 => ?_⟩
      have l1 := a.ends_len; have l2 := b.ends_len; have l3 := c.ends_len
      refine ⟨_, _, _, _, rfl, rfl, SqT.of (g2 _ _ e1), SqT.of e2, map_ne a.ends_ne, small (by simp only [List.length_map]; omega), fun e => absurd e (map_ne b.ends_ne), fun _ p3 n3 => ?_⟩
      have g3 := same_new n3 (.tup (a.ends.map V.str ++ b.ends.map V.str))
      have g123 := (g1.trans g2).trans g3
      refine ⟨_, rfl, p, _, _, _, rfl, rfl, SqT.of (g123 _ _ hp), atI_3 _ _ _ _, ?_⟩
      refine ⟨vc, c, rfl, hc.same g123, by omega, by omega, fun p4 H4 g4 e4 => ?_⟩
      refine ⟨_, _, _, _, rfl, rfl, SqT.of (g4 _ _ upd_same), SqT.of e4, (by rw [← List.map_append]; exact map_ne (by simp [a.ends_ne])), small (by simp only [List.length_map, List.length_append]; omega), fun e => absurd e (map_ne c.ends_ne), fun _ p5 n5 => ?_⟩
      refine q p5 _ (g123.trans (g4.trans (same_new n5 _))) ?_
      rw [upd_same, ← List.map_append, ← List.map_append]
      rfl

/-- the list of the asked fields -/
def spAll (n : Nat) : Sp := fun vs H Q _ => ∃ (v : V) (t : Tr), vs = [v] ∧ TreeAt H v t ∧ t.depth < n ∧ t.asks ≤ 1000 ∧
  ∀ (p : Addr) (H' : Hp), Same H H' → H' p = some (.lst (t.fields.map V.int)) → Q (.ref p) H'
theorem dn_all (B : Bts mg) (F : Df K mg "all_asks" s_all_asks P_all_asks) : ∀ n : Nat, Dn P w K mg base n "all_asks" (spAll n)
  | 0 => F.none (fun vs H Q E h => by obtain ⟨v, t, _, _, h, _⟩ := h; omega) 0
  | n + 1 => by
    have D_all_asks := dn_all B F n
    refine F.ok sc_all_asks (fun vs H Q E h => ?_) (fun f cdv A outer s H vs Q E hr h => ?_)
    · obtain ⟨v, t, rfl, _⟩ := h; rfl
    obtain ⟨v, t, rfl, ht, hd, hz, q⟩ := h
    refine ⟨_, (pss_cons
          (ps_if (pt_val (pe_callB call_isi rfl B.isinstance_ boot_isinstance (pa_cons (pv 0) (pa_cons (pe_bltn (v := .ty "str") rfl B.str_ boot_str rfl) pa_nil)))) (pss_one
            (ps_ret (pe_lst pa_nil))) pss_nil)
          (pss_one
          (ps_ret (pe_op op_cat (pe_op op_cat (pe_op op_cat (pe_lst (pa_cons (pe_ix ix_tup (pv 0) pe_int (fun _ _ => rfl)) pa_nil)) (My.pe_callD D_all_asks (hr.mono (by omega)) rfl (pa_cons (pe_ix ix_tup (pv 0) pe_int (fun _ _ => rfl)) pa_nil))) (My.pe_callD D_all_asks (hr.mono (by omega)) rfl (pa_cons (pe_ix ix_tup (pv 0) pe_int (fun _ _ => rfl)) pa_nil))) (My.pe_callD D_all_asks (hr.mono (by omega)) rfl (pa_cons (pe_ix ix_tup (pv 0) pe_int (fun _ _ => rfl)) pa_nil)))))), ?_⟩
    cases t with
    | leaf s =>
      obtain rfl := ht.invL
      refine ⟨_, rfl, _, _, _, _, true, rfl, .ty _, .base (.str _), k_ss, ?_⟩
      refine ⟨_, rfl, ?_⟩
      refine iteT ?_
      refine ⟨small (by decide), fun p hp => ?_⟩
      exact q p _ (same_new hp _) upd_same
    | ask f a b c =>
      obtain ⟨p, va, vb, vc, rfl, hp, ha, hb, hc⟩ := ht.inv
      simp only [Tr.depth] at hd
      simp only [Tr.asks] at hz
      have l1 := a.fields_len; have l2 := b.fields_len; have l3 := c.fields_len
      refine ⟨_, rfl, _, _, _, _, false, rfl, .ty _, .base (.tup hp), k_ts, ?_⟩
      refine ⟨_, rfl, ?_⟩
      refine iteF ?_
      refine ⟨_, rfl, p, _, _, _, rfl, rfl, SqT.of hp, atI_0 _ _ _ _, small (by show 1 ≤ 100000; decide), fun p0 n0 => ?_⟩
      have g0 := same_new n0 (.lst [.int f])
      refine ⟨_, rfl, p, _, _, _, rfl, rfl, SqT.of (g0 _ _ hp), atI_1 _ _ _ _, ?_⟩
      refine ⟨va, a, rfl, ha.same g0, by omega, by omega, fun p1 H1 g1 e1 => ?_⟩
      refine ⟨p0, p1, _, _, rfl, rfl, g1 _ _ upd_same, e1, small (by simp only [List.length_map, List.length_cons, List.length_nil]; omega), fun p2 n2 => ?_⟩
      have g2 := g0.trans (g1.trans (same_new n2 (.lst ([.int f] ++ a.fields.map V.int))))
      refine ⟨_, rfl, p, _, _, _, rfl, rfl, SqT.of (g2 _ _ hp), atI_2 _ _ _ _, ?_⟩
      refine ⟨vb, b, rfl, hb.same g2, by omega, by omega, fun p3 H3 g3 e3 => ?_⟩
      refine ⟨p2, p3, _, _, rfl, rfl, g3 _ _ upd_same, e3, small (by simp only [List.length_map, List.length_append, List.length_cons, List.length_nil]; omega), fun p4 n4 => ?_⟩
      have g4 := g2.trans (g3.trans (same_new n4 (.lst ([.int f] ++ a.fields.map V.int ++ b.fields.map V.int))))
      refine ⟨_, rfl, p, _, _, _, rfl, rfl, SqT.of (g4 _ _ hp), atI_3 _ _ _ _, ?_⟩
      refine ⟨vc, c, rfl, hc.same g4, by omega, by omega, fun p5 H5 g5 e5 => ?_⟩
      refine ⟨p4, p5, _, _, rfl, rfl, g5 _ _ upd_same, e5, small (by simp only [List.length_map, List.length_append, List.length_cons, List.length_nil]; omega), fun p6 n6 => ?_⟩
      refine q p6 _ (g4.trans (g5.trans (same_new n6 _))) ?_
      rw [upd_same]
      simp only [Tr.fields, List.map_append, List.map_cons, List.map_nil]

/-- the ascending tuple of the asked fields -/
def spAsked : Sp := fun vs H Q _ => ∃ (v : V) (t : Tr), vs = [v] ∧ TreeAt H v t ∧ t.depth < 60 ∧ t.asks ≤ 1000 ∧ t.Below 60 ∧
  ∀ (p : Addr) (H' : Hp) (fs : List Int), Same H H' → fs.Pairwise (· < ·) → (∀ k, k ∈ fs ↔ k ∈ t.fields) → H' p = some (.tup (fs.map V.int)) → Q (.ref p) H'
theorem dn_asked (B : Bts mg) (F : Df K mg "asked" s_asked P_asked) (D_all_asks : Dn P w K mg base 60 "all_asks" (spAll 60)) : Dn P w K mg base 61 "asked" spAsked := by
  refine F.ok sc_asked (fun vs H Q E h => ?_) (fun f cdv A outer s H vs Q E hr h => ?_)
  · obtain ⟨v, t, rfl, _⟩ := h; rfl
  obtain ⟨v, t, rfl, ht, hd, hz, hb, q⟩ := h
  refine ⟨_, (pss_one
        (ps_ret (pe_callTy call_tuple_of rfl B.tuple_ boot_tuple (pa_cons (pe_callB (cr_sortedSet rfl) rfl B.sorted_ boot_sorted (pa_cons (pe_callTy (My.call_setI rfl) rfl B.set_ boot_set (pa_cons (My.pe_callD D_all_asks (hr.mono (by omega)) rfl (pa_cons (pv 0) pa_nil)) pa_nil)) pa_nil)) pa_nil)))), ?_⟩
  refine ⟨_, rfl, v, t, rfl, ht, hd, hz, fun p1 H1 g1 e1 => ?_⟩
  have l := t.fields_len
  refine ⟨p1, t.fields, rfl, SqL.of e1, (by show _ < 4096; omega), fun p2 ds nd m n2 => ?_⟩
  have l2 := nodup_small 60 ds nd fun z hz' => Tr.below_mem hb z ((m z).mp hz')
  refine ⟨p2, _, _, rfl, upd_same, by omega, fun ns p3 hs hm hl n3 => ?_⟩
  refine ⟨p3, _, rfl, .inl ⟨SqL.of upd_same, fun p4 n4 => ?_⟩⟩
  refine q p4 _ ns (((g1.trans (same_new n2 _)).trans (same_new n3 _)).trans (same_new n4 _)) hs (fun k => ?_) upd_same
  rw [hm k]
  simp

/-! ### the law's own defs -/
theorem dn_tape (B : Bts mg) (F : Df K mg "_law_tape" s__law_tape P__law_tape) : Dn P w K mg base 1 "_law_tape" (spTape K) := by
  refine F.ok sc__law_tape (fun vs H Q E h => ?_) (fun f cdv A outer s H vs Q E hr h => ?_)
  · obtain ⟨a, ns, k, rfl, _⟩ := h; rfl
  obtain ⟨a, ns, k, rfl, hS, hk, q⟩ := h
  refine ⟨_, (pss_cons
        (ps_if (pt_cmpR op_lt (pv 1) (pe_callB call_len_seq rfl B.len_ PySem.boot_len (pa_cons (pv 0) pa_nil)) (nomark _)) (pss_one
          (ps_ret (pe_lst (pa_cons (pe_callB call_abs rfl B.abs_ boot_abs (pa_cons (pe_ix ix_list (pv 0) (pv 1) (fun _ _ => rfl)) pa_nil)) (pa_cons pe_int pa_nil))))) pss_nil)
        (pss_one
        (ps_ret (pe_lst (pa_cons (pv 1) (pa_cons pe_int pa_nil)))))), ?_⟩
  refine ⟨_, rfl, _, rfl, a, _, rfl, .inl hS, _, _, rfl, rfl, _, rfl, ?_⟩
  refine ite2 (fun c => ?_) (fun c => ?_)
  · have c' : k < ((ns.map V.int).length : Int) := of_decide_eq_true c
    rw [List.length_map] at c'
    have hk' : k.toNat < ns.length := by omega
    have e : k = ((k.toNat : Nat) : Int) := by omega
    have hat : atI (ns.map V.int) k = some (.int ns[k.toNat]) := by
      have z : atI (ns.map V.int) ((k.toNat : Nat) : Int) = some (.int ns[k.toNat]) := atI_nat (by rw [List.getElem?_map, List.getElem?_eq_getElem hk']; rfl)
      rw [← e] at z
      exact z
    refine ⟨_, rfl, _, rfl, a, _, k, _, rfl, rfl, hS, hat, _, rfl, small (by show 2 ≤ 100000; decide), fun t n => ?_⟩
    exact q t _ n (by split <;> omega)
  · refine ⟨_, rfl, small (by show 2 ≤ 100000; decide), fun t n => ?_⟩
    exact q t _ n hk

theorem dn_take (B : Bts mg) (F : Df K mg "_law_take" s__law_take P__law_take) : Dn P w K mg base 1 "_law_take" spTake := by
  refine F.ok sc__law_take (fun vs H Q E h => ?_) (fun f cdv A outer s H vs Q E hr h => ?_)
  · obtain ⟨t, n, rfl, _⟩ := h; rfl
  obtain ⟨t, n, rfl, ⟨c, k, ht, hc, hk⟩, n0, n1, q⟩ := h
  refine ⟨_, (pss_cons
        (ps_set (i := 2) sc__law_take.nd rfl (.inl rfl) (pe_ix ix_list (pv 0) pe_int (fun _ _ => rfl)))
        (pss_cons
        (ps_asg (pe_op op_add (pe_ix ix_list (pv 0) pe_int (fun _ _ => rfl)) pe_int) (pg_sub (pv 0) pe_int set_list))
        (pss_cons
        (ps_set (i := 3) sc__law_take.nd rfl (.inl rfl) (pe_ix ix_list (pv 0) pe_int (fun _ _ => rfl)))
        (pss_cons
        (ps_if (pt_cmpR op_ge (pv 2) (pe_op op_pow pe_int pe_int) (nomark _)) (pss_cons
          (ps_asg (pe_op op_fdivN (pv 2) (pv 1)) (pg_sub (pv 0) pe_int set_list))
          (pss_one
          (ps_ret (pe_op op_modN (pe_callTy call_int1 rfl B.int_ boot_int (pa_cons (pv 2) pa_nil)) (pv 1))))) pss_nil)
        (pss_cons
        (ps_set (i := 4) sc__law_take.nd rfl (.inl rfl) (pe_op op_modN (pe_callTy call_int1 rfl B.int_ boot_int (pa_cons (pe_op op_add (pe_op op_add (pv 2) (pe_op op_mul pe_int (pv 3))) pe_int) pa_nil)) pe_int))
        (pss_cons
        (ps_set (i := 4) sc__law_take.nd rfl (.inl rfl) (pe_op op_modN (pe_callTy call_int1 rfl B.int_ boot_int (pa_cons (pe_op op_mul (pv 4) (pe_op op_add (pv 4) pe_int)) pa_nil)) pe_int))
        (pss_cons
        (ps_set (i := 4) sc__law_take.nd rfl (.inl rfl) (pe_op op_modN (pe_callTy call_int1 rfl B.int_ boot_int (pa_cons (pe_op op_add (pe_op op_mul (pv 4) (pe_op op_add (pv 4) pe_int)) (pe_op op_mul pe_int (pv 3))) pa_nil)) pe_int))
        (pss_one
        (ps_ret (pe_op op_modN (pe_callTy call_int1 rfl B.int_ boot_int (pa_cons (pe_op op_fdivN (pv 4) pe_int) pa_nil)) (pv 1))))))))))), ?_⟩
  refine ⟨_, rfl, t, _, _, _, rfl, rfl, SqL.of ht, rfl, ?_⟩
  refine ⟨_, rfl, t, _, _, _, rfl, rfl, SqL.of ht, rfl, _, _, rfl, rfl, ?_⟩
  refine ⟨_, rfl, t, _, _, 1, rfl, rfl, ht, rfl, ?_⟩
  refine ⟨_, rfl, t, _, _, _, rfl, rfl, SqL.of upd_same, rfl, ?_⟩
  refine ⟨_, rfl, _, _, rfl, rfl, ⟨by decide, by decide, by decide⟩, _, _, rfl, rfl, _, rfl, ?_⟩
  refine ite2 (fun c1 => ?_) (fun c1 => ?_)
  · refine ⟨_, rfl, _, rfl, _, _, rfl, rfl, ⟨by omega, by omega⟩, ?_⟩
    refine ⟨_, rfl, t, _, _, 0, rfl, rfl, upd_same, rfl, ?_⟩
    refine ⟨_, rfl, .inl ⟨_, rfl, ?_⟩⟩
    refine ⟨_, rfl, _, _, rfl, rfl, by omega, ?_⟩
    exact q _ _ ((But.upd _).trans (But.upd _)) ⟨_, _, upd_same, Int.fdiv_nonneg hc (by omega), by omega⟩ (Int.fmod_nonneg_of_pos _ n0) (Int.fmod_lt_of_pos _ n0)
  · refine ⟨_, rfl, _, rfl, _, _, rfl, rfl, .inl ⟨by decide, by decide⟩, ?_⟩
    refine ⟨_, _, rfl, rfl, _, _, rfl, rfl, .inl ⟨_, rfl, ?_⟩⟩
    have m0 := Int.fmod_nonneg_of_pos (c + 7919 * (k + 1) + 13) (show (0 : Int) < 2147483647 by decide)
    have m1 := Int.fmod_lt_of_pos (c + 7919 * (k + 1) + 13) (show (0 : Int) < 2147483647 by decide)
    refine ⟨_, _, rfl, rfl, (show (2147483647 : Int) ≠ 0 by decide), ?_⟩
    refine ⟨_, rfl, _, rfl, _, _, rfl, rfl, _, _, rfl, rfl, .inl ⟨by omega, by omega⟩, .inl ⟨_, rfl, ?_⟩⟩
    refine ⟨_, _, rfl, rfl, (show (2147483629 : Int) ≠ 0 by decide), ?_⟩
    generalize (c + 7919 * (k + 1) + 13).fmod 2147483647 = m
    have m0' := Int.fmod_nonneg_of_pos (m * (m + 48271)) (show (0 : Int) < 2147483629 by decide)
    have m1' := Int.fmod_lt_of_pos (m * (m + 48271)) (show (0 : Int) < 2147483629 by decide)
    refine ⟨_, rfl, _, rfl, _, _, rfl, rfl, _, _, rfl, rfl, .inl ⟨by omega, by omega⟩, ?_⟩
    refine ⟨_, rfl, _, _, rfl, rfl, .inl ⟨by decide, by decide⟩, _, _, rfl, rfl, .inl ⟨_, rfl, ?_⟩⟩
    refine ⟨_, _, rfl, rfl, (show (2147483647 : Int) ≠ 0 by decide), ?_⟩
    refine ⟨_, rfl, _, _, rfl, rfl, ⟨by decide, by decide⟩, .inl ⟨_, rfl, ?_⟩⟩
    refine ⟨_, rfl, _, _, rfl, rfl, by omega, ?_⟩
    exact q _ _ (But.upd _) ⟨_, _, upd_same, hc, by omega⟩ (Int.fmod_nonneg_of_pos _ n0) (Int.fmod_lt_of_pos _ n0)

/-- a free tree -/
def spTree (m : Nat) : Sp := fun vs H Q _ => ∃ (t : Addr) (n lv : Int), vs = [.ref t, .int n, .int lv] ∧ Tape H t ∧ 0 < n ∧ n < 1073741824 ∧ 0 ≤ lv ∧ lv < (m : Int) ∧
  ∀ (H' : Hp) (v : V) (x : Tr), But t H H' → Tape H' t → TreeAt H' v x → x.Below n → x.Two → x.depth ≤ lv.toNat → 2 * x.asks + 1 ≤ 3 ^ lv.toNat → Q v H'
theorem two_words {r : Int} (h0 : 0 ≤ r) (h1 : r < 2) : ∃ s : Str, atI [V.str "older", V.str "newer"] r = some (.str s) ∧ (s = "older" ∨ s = "newer") := by
  have h : r = 0 ∨ r = 1 := by omega
  rcases h with h | h
  · subst h; exact ⟨_, rfl, .inl rfl⟩
  · subst h; exact ⟨_, rfl, .inr rfl⟩
theorem dn_tree (B : Bts mg) (F : Df K mg "_law_tree" s__law_tree P__law_tree) (D__law_take : Dn P w K mg base 1 "_law_take" spTake) : ∀ m : Nat, Dn P w K mg base (m + 2) "_law_tree" (spTree m)
  | 0 => F.none (fun vs H Q E h => by obtain ⟨t, n, lv, _, _, _, _, _, _, _⟩ := h; omega) 2
  | m + 1 => by
    have D__law_tree := dn_tree B F D__law_take m
    refine F.ok sc__law_tree (fun vs H Q E h => ?_) (fun f cdv A outer s H vs Q E hr h => ?_)
    · obtain ⟨t, n, lv, rfl, _⟩ := h; rfl
    obtain ⟨t, n, lv, rfl, hT, n0, n1, lv0, lv1, q⟩ := h
    refine ⟨_, (pss_cons
          (ps_if (PW.pt (pw_or (pt_cmpR op_eq (pv 2) pe_int (nomark _)) (pw_or1 (pt_cmpR op_eq (My.pe_callD D__law_take (hr.mono (by omega)) rfl (pa_cons (pv 0) (pa_cons pe_int pa_nil))) pe_int (nomark _))))) (pss_one
            (ps_ret (pe_ix ix_list (pe_lst (pa_cons pe_str (pa_cons pe_str pa_nil))) (My.pe_callD D__law_take (hr.mono (by omega)) rfl (pa_cons (pv 0) (pa_cons pe_int pa_nil))) (fun _ _ => rfl)))) pss_nil)
          (pss_cons
          (ps_set (i := 3) sc__law_tree.nd rfl (.inl rfl) (My.pe_callD D__law_take (hr.mono (by omega)) rfl (pa_cons (pv 0) (pa_cons (pv 1) pa_nil))))
          (pss_cons
          (ps_set (i := 4) sc__law_tree.nd rfl (.inl rfl) (My.pe_callD D__law_tree (hr.mono (by omega)) rfl (pa_cons (pv 0) (pa_cons (pv 1) (pa_cons (pe_op op_sub (pv 2) pe_int) pa_nil)))))
          (pss_cons
          (ps_set (i := 5) sc__law_tree.nd rfl (.inl rfl) (My.pe_callD D__law_tree (hr.mono (by omega)) rfl (pa_cons (pv 0) (pa_cons (pv 1) (pa_cons (pe_op op_sub (pv 2) pe_int) pa_nil)))))
          (pss_cons
          (ps_set (i := 6) sc__law_tree.nd rfl (.inl rfl) (My.pe_callD D__law_tree (hr.mono (by omega)) rfl (pa_cons (pv 0) (pa_cons (pv 1) (pa_cons (pe_op op_sub (pv 2) pe_int) pa_nil)))))
          (pss_one
          (ps_ret (pe_tup (pa_cons (pv 3) (pa_cons (pv 4) (pa_cons (pv 5) (pa_cons (pv 6) pa_nil)))))))))))), ?_⟩
    refine if_split (fun b H1 => But t H H1 ∧ Tape H1 t ∧ (b = false → lv ≠ 0)) (fun Q' qq => ?_) (fun H1 h => ?_) (fun H1 h => ?_)
    · refine ⟨_, rfl, rfl, _, rfl, ?_⟩
      refine ite2 (fun c => ?_) (fun c => ?_)
      · exact qq _ _ ⟨But.refl _ _, hT, fun z => by cases z⟩
      · refine ⟨_, rfl, t, 4, rfl, hT, by decide, by decide, fun H1 r b1 T1 r0 r1 => ?_⟩
        exact ⟨rfl, _, rfl, qq _ _ ⟨b1, T1, fun _ z => c (by rw [z]; exact decide_eq_true rfl)⟩⟩
    · obtain ⟨b1, T1, _⟩ := h
      refine ⟨small (by show 2 ≤ 100000; decide), fun p np => ?_⟩
      have g1 := same_new np (.lst [.str "older", .str "newer"])
      refine ⟨_, rfl, t, 2, rfl, T1.same g1, by decide, by decide, fun H2 r b2 T2 r0 r1 => ?_⟩
      obtain ⟨s, hs, hw⟩ := two_words r0 r1
      refine ⟨p, _, r, _, rfl, rfl, SqL.of (b2 p _ (T1.ne np) upd_same), hs, ?_⟩
      exact q _ _ (.leaf s) (b1.trans ((But.of g1).trans b2)) T2 (.leaf s) trivial hw (Nat.zero_le _) (Nat.one_le_pow _ _ (by decide))
    · obtain ⟨b1, T1, hl⟩ := h
      have hl := hl rfl
      refine ⟨_, rfl, _, rfl, t, n, rfl, T1, n0, n1, fun H2 fd b2 T2 f0 f1 => ?_⟩
      refine ⟨_, rfl, _, rfl, _, rfl, _, _, rfl, rfl, t, n, lv - 1, rfl, T2, n0, n1, by omega, by omega, fun H3 va xa b3 T3 a1 a2 a3 a4 a5 => ?_⟩
      refine ⟨_, rfl, _, rfl, _, rfl, _, _, rfl, rfl, t, n, lv - 1, rfl, T3, n0, n1, by omega, by omega, fun H4 vb xb b4 T4 c1 c2 c3 c4 c5 => ?_⟩
      refine ⟨_, rfl, _, rfl, _, rfl, _, _, rfl, rfl, t, n, lv - 1, rfl, T4, n0, n1, by omega, by omega, fun H5 vc xc b5 T5 d1 d2 d3 d4 d5 => ?_⟩
      refine ⟨_, rfl, _, rfl, _, rfl, _, rfl, small (by show 4 ≤ 100000; decide), fun p np => ?_⟩
      have g := same_new np (.tup [.int fd, va, vb, vc])
      have e : lv.toNat = (lv - 1).toNat + 1 := by omega
      refine q _ _ (.ask fd xa xb xc) (b1.trans (b2.trans (b3.trans (b4.trans (b5.trans (But.of g)))))) (T5.same g)
        (.ask upd_same (((a1.tape b4 T3).tape b5 T4).same g) ((c1.tape b5 T4).same g) (d1.same g)) ⟨f0, f1, a2, c2, d2⟩ ⟨a3, c3, d3⟩ ?_ ?_
      · rw [e]; simp only [Tr.depth]; omega
      · rw [e, Nat.pow_succ]; simp only [Tr.asks]; omega

/-- a tree with its layers on top, three times the same -/
def spWide : Sp := fun vs H Q _ => ∃ (t : Addr) (n : Int) (v : V) (m : Int) (x : Tr), vs = [.ref t, .int n, v, .int m] ∧ Tape H t ∧ 0 < n ∧ n < 1073741824 ∧ 0 ≤ m ∧ m < 100 ∧ TreeAt H v x ∧ x.Below n ∧
  ∀ (H' : Hp) (v' : V) (y : Tr), But t H H' → Tape H' t → TreeAt H' v' y → y.Below n → y.depth ≤ x.depth + m.toNat → 2 * y.asks + 1 ≤ 3 ^ m.toNat * (2 * x.asks + 1) → Q v' H'
theorem dn_wide (B : Bts mg) (F : Df K mg "_law_wide" s__law_wide P__law_wide) (D__law_take : Dn P w K mg base 1 "_law_take" spTake) : Dn P w K mg base 2 "_law_wide" spWide := by
  refine F.ok sc__law_wide (fun vs H Q E h => ?_) (fun f cdv A outer s H vs Q E hr h => ?_)
  · obtain ⟨t, n, v, m, x, rfl, _⟩ := h; rfl
  obtain ⟨t, n, v, m, x, rfl, hT, n0, n1, m0, m1, hx, hb, q⟩ := h
  refine ⟨_, (pss_cons
        (ps_for PassesOwn.never rfl (pi_range1 rfl B.range_ (pa_cons (pv 3) pa_nil)) (pg_name (i := 4) sc__law_wide.nd rfl (.inl rfl)) (pss_one
          (ps_set (i := 2) sc__law_wide.nd rfl (.inl rfl) (pe_tup (pa_cons (My.pe_callD D__law_take (hr.mono (by omega)) rfl (pa_cons (pv 0) (pa_cons (pv 1) pa_nil))) (pa_cons (pv 2) (pa_cons (pv 2) (pa_cons (pv 2) pa_nil))))))))
        (pss_one
        (ps_ret (pv 2)))), ?_⟩
  refine ⟨_, rfl, _, rfl, by omega, by omega, ?_⟩
  refine for_range (lo := 0) (n := m.toNat) (fun i σ H' => ∃ v' y s4, σ = [some (.ref t), some (.int n), some v', some (.int m), s4] ∧ But t H H' ∧ Tape H' t ∧ TreeAt H' v' y ∧ y.Below n ∧ y.depth ≤ x.depth + i ∧ 2 * y.asks + 1 ≤ 3 ^ i * (2 * x.asks + 1))
    ⟨v, x, _, rfl, But.refl _ _, hT, hx, hb, Nat.le_refl _, by rw [Nat.pow_zero]; omega⟩ ?_ ?_
  · rintro i σ H1 hi ⟨v', y, s4, rfl, b1, T1, hy, hb1, hd1, ha1⟩
    refine ⟨_, rfl, _, rfl, t, n, rfl, T1, n0, n1, fun H2 fd b2 T2 f0 f1 => ?_⟩
    refine ⟨_, rfl, _, rfl, _, rfl, small (by show 4 ≤ 100000; decide), fun p np => ?_⟩
    have g := same_new np (.tup [.int fd, v', v', v'])
    have hy2 := (hy.tape b2 T1).same g
    refine ⟨_, .ask fd y y y, _, rfl, b1.trans (b2.trans (But.of g)), T2.same g, .ask upd_same hy2 hy2 hy2, ⟨f0, f1, hb1, hb1, hb1⟩, ?_, ?_⟩
    · simp only [Tr.depth]; omega
    · rw [Nat.pow_succ, Nat.mul_comm (3 ^ i) 3, Nat.mul_assoc]; simp only [Tr.asks]; omega
  · rintro σ H1 ⟨v', y, s4, rfl, b1, T1, hy, hb1, hd1, ha1⟩
    exact ⟨_, rfl, q H1 v' y b1 T1 hy hb1 hd1 ha1⟩

/-- a row of signs -/
def spRow : Sp := fun vs H Q _ => ∃ (t : Addr) (n : Int), vs = [.ref t, .int n] ∧ Tape H t ∧ 0 ≤ n ∧ n < 1000 ∧
  ∀ (H' : Hp) (p : Addr) (rs : List Int), But t H H' → Tape H' t → (rs.length : Int) = n → (∀ z ∈ rs, z = -1 ∨ z = 0 ∨ z = 1) → H' p = some (.tup (rs.map V.int)) → Q (.ref p) H'
theorem dn_row (B : Bts mg) (F : Df K mg "_law_row" s__law_row P__law_row) (D__law_take : Dn P w K mg base 1 "_law_take" spTake) : Dn P w K mg base 2 "_law_row" spRow := by
  refine F.ok sc__law_row (fun vs H Q E h => ?_) (fun f cdv A outer s H vs Q E hr h => ?_)
  · obtain ⟨t, n, rfl, _⟩ := h; rfl
  obtain ⟨t, n, rfl, hT, n0, n1, q⟩ := h
  refine ⟨_, (pss_one
        (ps_ret (pe_callTy call_tuple_of rfl B.tuple_ boot_tuple (pa_cons (pe_lc (own := [("_law_k", 2)]) (g := gName 2) (tt := tYes) rfl sc__law_row.nd (pi_range1 rfl B.range_ (pa_cons (pv 1) pa_nil)) (blkOk_by (own := [("_law_k", 2)]) (N := N__law_row) (sc := defScope s__law_row) (by decide +kernel)) (fun _ _ _ _ _ => pg_name (i := 2) sc__law_row.nd rfl (.inl rfl)) (fun _ _ _ _ _ => pts_nil) (fun _ _ _ _ _ => (pe_op op_sub (My.pe_callD D__law_take (hr.mono (by omega)) rfl (pa_cons (pv 0) (pa_cons pe_int pa_nil))) pe_int))) pa_nil)))), ?_⟩
  refine ⟨_, rfl, _, rfl, by omega, by omega, fun D nD => ?_⟩
  refine lc_range (lo := 0) (n := n.toNat) (fun i H' => ∃ rs : List Int, H' D = some (.lst (rs.map V.int)) ∧ rs.length = i ∧ (∀ z ∈ rs, z = -1 ∨ z = 0 ∨ z = 1) ∧ But t H H' ∧ Tape H' t)
    ⟨[], upd_same, rfl, (fun _ h => nomatch h), .of (same_new nD _), hT.same (same_new nD _)⟩ ?_ ?_
  · rintro i H1 hi ⟨rs, e1, l1, s1, b1, T1⟩
    refine ⟨rfl, ?_⟩
    refine ⟨_, rfl, t, 3, rfl, T1, by decide, by decide, fun H2 r b2 T2 r0 r1 => ?_⟩
    have hD : D ≠ t := hT.ne nD
    refine ⟨_, _, rfl, rfl, _, b2 D _ hD e1, smallLt (by rw [List.length_map]; omega), ?_⟩
    refine ⟨rs ++ [r - 1], by rw [upd_same, List.map_append]; rfl, by simp [l1], fun z hz => ?_, (b1.trans b2).later nD, T2.upd hD⟩
    · rcases List.mem_append.mp hz with hz | hz
      · exact s1 z hz
      · rw [List.mem_singleton] at hz; omega
  · rintro H1 ⟨rs, e1, l1, s1, b1, T1⟩
    refine ⟨D, _, rfl, .inl ⟨SqL.of e1, fun p np => ?_⟩⟩
    exact q _ p rs (b1.trans (But.new np _)) (T1.same (same_new np _)) (by omega) s1 upd_same

/-- a long branch -/
def spVine : Sp := fun vs H Q _ => ∃ (t : Addr) (n m : Int) (r : Addr) (rs : List Int), vs = [.ref t, .int n, .int m, .ref r] ∧ Tape H t ∧ 0 < n ∧ n < 1073741824 ∧ 0 ≤ m ∧ m < 1000 ∧
  H r = some (.tup (rs.map V.int)) ∧ (rs.length : Int) = n ∧ (∀ z ∈ rs, z = -1 ∨ z = 0 ∨ z = 1) ∧
  ∀ (H' : Hp) (v : V) (x : Tr), But t H H' → Tape H' t → TreeAt H' v x → x.Below n → x.depth ≤ m.toNat → x.asks ≤ m.toNat → Q v H'
theorem set3 {H : Hp} {va vb vc v : V} {a b c x : Tr} {k : Int} (h0 : 0 ≤ k) (h1 : k < 3) (ha : TreeAt H va a) (hb : TreeAt H vb b) (hc : TreeAt H vc c) (hx : TreeAt H v x) :
    ∃ (j : Nat) (ua ub uc : V) (a' b' c' : Tr), ixN 3 k = some j ∧ [va, vb, vc].set j v = [ua, ub, uc] ∧ TreeAt H ua a' ∧ TreeAt H ub b' ∧ TreeAt H uc c' ∧
      (a' = x ∧ b' = b ∧ c' = c ∨ a' = a ∧ b' = x ∧ c' = c ∨ a' = a ∧ b' = b ∧ c' = x) := by
  have h : k = 0 ∨ k = 1 ∨ k = 2 := by omega
  rcases h with h | h | h
  · subst h; exact ⟨0, _, _, _, _, _, _, rfl, rfl, hx, hb, hc, .inl ⟨rfl, rfl, rfl⟩⟩
  · subst h; exact ⟨1, _, _, _, _, _, _, rfl, rfl, ha, hx, hc, .inr (.inl ⟨rfl, rfl, rfl⟩)⟩
  · subst h; exact ⟨2, _, _, _, _, _, _, rfl, rfl, ha, hb, hx, .inr (.inr ⟨rfl, rfl, rfl⟩)⟩
theorem dn_vine (B : Bts mg) (F : Df K mg "_law_vine" s__law_vine P__law_vine) (D__law_take : Dn P w K mg base 1 "_law_take" spTake) : Dn P w K mg base 2 "_law_vine" spVine := by
  refine F.ok sc__law_vine (fun vs H Q E h => ?_) (fun f cdv A outer s H vs Q E hr h => ?_)
  · obtain ⟨t, n, m, r, rs, rfl, _⟩ := h; rfl
  obtain ⟨t, n, m, r, rs, rfl, hT, n0, n1, m0, m1, hr1, hr2, hr3, q⟩ := h
  refine ⟨_, (pss_cons
        (ps_set (i := 4) sc__law_vine.nd rfl (.inl rfl) (pe_ix ix_list (pe_lst (pa_cons pe_str (pa_cons pe_str pa_nil))) (My.pe_callD D__law_take (hr.mono (by omega)) rfl (pa_cons (pv 0) (pa_cons pe_int pa_nil))) (fun _ _ => rfl)))
        (pss_cons
        (ps_for PassesOwn.never rfl (pi_range1 rfl B.range_ (pa_cons (pv 2) pa_nil)) (pg_name (i := 5) sc__law_vine.nd rfl (.inl rfl)) (pss_cons
          (ps_set (i := 6) sc__law_vine.nd rfl (.inl rfl) (My.pe_callD D__law_take (hr.mono (by omega)) rfl (pa_cons (pv 0) (pa_cons (pv 1) pa_nil))))
          (pss_cons
          (ps_set (i := 7) sc__law_vine.nd rfl (.inl rfl) (pe_op op_add pe_int (pe_ix ix_tup (pv 3) (pv 6) (fun _ _ => rfl))))
          (pss_cons
          (ps_if (pt_cmpR op_eq (My.pe_callD D__law_take (hr.mono (by omega)) rfl (pa_cons (pv 0) (pa_cons pe_int pa_nil))) pe_int (nomark _)) (pss_one
            (ps_set (i := 7) sc__law_vine.nd rfl (.inl rfl) (My.pe_callD D__law_take (hr.mono (by omega)) rfl (pa_cons (pv 0) (pa_cons pe_int pa_nil))))) pss_nil)
          (pss_cons
          (ps_setLc (i := 8) (own := [("_law_m", 9)]) (g := gName 9) (tt := tYes) rfl sc__law_vine.nd rfl rfl (sw_true rfl rfl rfl (by decide +kernel)) (pi_range1 rfl B.range_ (pa_cons pe_int pa_nil)) (blkOk_by (own := [("_law_m", 9)]) (N := N__law_vine) (sc := defScope s__law_vine) (by decide +kernel)) (fun _ _ _ _ _ => pg_name (i := 9) sc__law_vine.nd rfl (.inl rfl)) (fun _ _ _ _ _ => pts_nil) (fun _ _ _ _ _ => (pe_ix (ix_listK (K := K) rfl) (pe_lst (pa_cons pe_str (pa_cons pe_str pa_nil))) (My.pe_callD D__law_take (hr.mono (by omega)) rfl (pa_cons (pv 0) (pa_cons pe_int pa_nil))) (fun _ _ => rfl))))
          (pss_cons
          (ps_asg (pv 4) (pg_sub (pv 8) (pv 7) set_list))
          (pss_one
          (ps_set (i := 4) sc__law_vine.nd rfl (.inl rfl) (pe_tup (pa_cons (pv 6) (pa_cons (pe_ix ix_list (pv 8) pe_int (fun _ _ => rfl)) (pa_cons (pe_ix ix_list (pv 8) pe_int (fun _ _ => rfl)) (pa_cons (pe_ix ix_list (pv 8) pe_int (fun _ _ => rfl)) pa_nil)))))))))))))
        (pss_one
        (ps_ret (pv 4))))), ?_⟩
  refine ⟨small (by show 2 ≤ 100000; decide), fun p np => ?_⟩
  have g1 := same_new np (.lst [.str "older", .str "newer"])
  refine ⟨_, rfl, t, 2, rfl, hT.same g1, by decide, by decide, fun H1 z b1 T1 z0 z1 => ?_⟩
  obtain ⟨s, hs, hw⟩ := two_words z0 z1
  refine ⟨p, _, z, _, rfl, rfl, SqL.of (b1 p _ (hT.ne np) upd_same), hs, ?_⟩
  refine ⟨_, rfl, _, rfl, by omega, by omega, ?_⟩
  refine for_range (lo := 0) (n := m.toNat) (fun i σ H' => ∃ v x s5 s6 s7 s8 s9, σ = [some (.ref t), some (.int n), some (.int m), some (.ref r), some v, s5, s6, s7, s8, s9] ∧ But t H H' ∧ Tape H' t ∧ TreeAt H' v x ∧ x.Below n ∧ x.depth ≤ i ∧ x.asks ≤ i)
    ⟨_, .leaf s, _, _, _, _, _, rfl, (But.of g1).trans b1, T1, .leaf s, trivial, Nat.le_refl _, Nat.le_refl _⟩ ?_ ?_
  · rintro i σ H2 hi ⟨v, x, s5, s6, s7, s8, s9, rfl, b2, T2, hx, hb, hd, ha⟩
    refine ⟨_, rfl, _, rfl, t, n, rfl, T2, n0, n1, fun H3 fd b3 T3 f0 f1 => ?_⟩
    have b23 := b2.trans b3
    have hrow : H3 r = some (.tup (rs.map V.int)) := by obtain ⟨l, z⟩ := hT.lst; exact b23.tup z hr1
    refine ⟨_, rfl, _, rfl, r, _, fd, _, rfl, rfl, SqT.of hrow, sgn_at f0 (by omega), _, _, rfl, rfl, ?_⟩
    have hsg := hr3 _ (sgn_in (rs := rs) f0 (by omega))
    dsimp only [gName]
    refine st_split (t := tIfS _ _ _) (fun σ' H' => ∃ k : Int, σ' = [some (.ref t), some (.int n), some (.int m), some (.ref r), some v, some (.int (0 + i)), some (.int fd), some (.int k), s8, s9] ∧ 0 ≤ k ∧ k < 3 ∧ But t H3 H' ∧ Tape H' t) (fun D' hD' => ?_) ?_
    · refine ⟨_, rfl, t, 8, rfl, T3, by decide, by decide, fun H4 z b4 T4 z0 z1 => ?_⟩
      refine ⟨rfl, _, rfl, ?_⟩
      refine ite2 (fun c => ?_) (fun c => ?_)
      · refine ⟨_, rfl, t, 3, rfl, T4, by decide, by decide, fun H5 k b5 T5 k0 k1 => ?_⟩
        exact hD' _ _ ⟨k, rfl, k0, k1, b4.trans b5, T5⟩
      · exact hD' _ _ ⟨_, rfl, by omega, by omega, b4, T4⟩
    rintro σ' H4 ⟨k, rfl, k0, k1, b4, T4⟩
    refine ⟨3, rfl, by decide, by decide, fun D nD => ?_⟩
    have hDt : D ≠ t := T4.ne nD
    refine lc_range (lo := 0) (n := 3) (fun i H' => ∃ ws : List Str, H' D = some (.lst (ws.map V.str)) ∧ ws.length = i ∧ But t H4 H' ∧ Tape H' t)
      ⟨[], upd_same, rfl, .of (same_new nD _), T4.same (same_new nD _)⟩ ?_ ?_
    · rintro j H5 hj ⟨ws, e1, l1, c1, T5⟩
      refine ⟨rfl, ?_⟩
      refine ⟨small (by show 2 ≤ 100000; decide), fun p np => ?_⟩
      have g1 := same_new np (.lst [.str "older", .str "newer"])
      refine ⟨_, rfl, t, 2, rfl, T5.same g1, by decide, by decide, fun H6 z b6 T6 z0 z1 => ?_⟩
      obtain ⟨s, hs, hw⟩ := two_words z0 z1
      refine ⟨p, _, z, _, rfl, rfl, SqL.of (b6 p _ (T5.ne np) upd_same), hs, ?_⟩
      refine ⟨_, b6 D _ hDt (g1 _ _ e1), smallLt (by rw [List.length_map]; omega), ?_⟩
      exact ⟨ws ++ [s], by rw [upd_same, List.map_append]; rfl, by simp [l1], (c1.trans ((But.of g1).trans b6)).later nD, T6.upd hDt⟩
    rintro H5 ⟨ws, e1, l1, c1, T5⟩
    match ws, l1 with
    | [w0, w1, w2], _ =>
      have hx5 : TreeAt H5 v x := ((hx.tape b3 T2).tape b4 T3).tape c1 T4
      obtain ⟨j, ua, ub, uc, a', b', c', hj, hset, ta, tb, tc, cas⟩ := set3 k0 k1 (.leaf w0) (.leaf w1) (.leaf w2) hx5
      refine ⟨_, rfl, _, rfl, _, rfl, D, _, k, j, rfl, rfl, e1, hj, ?_⟩
      rw [show (List.map V.str [w0, w1, w2]).set j v = [ua, ub, uc] from hset]
      refine ⟨_, rfl, _, rfl, D, _, _, _, rfl, rfl, SqL.of upd_same, rfl, ?_⟩
      refine ⟨_, rfl, D, _, _, _, rfl, rfl, SqL.of upd_same, rfl, ?_⟩
      refine ⟨_, rfl, D, _, _, _, rfl, rfl, SqL.of upd_same, rfl, ?_⟩
      refine ⟨small (by show 4 ≤ 100000; decide), fun p np => ?_⟩
      have kp : ∀ p' xs, H5 p' = some (.tup xs) → upd (upd H5 D (.lst [ua, ub, uc])) p (.tup [.int fd, ua, ub, uc]) p' = some (.tup xs) := fun p' xs e => by
        rw [upd_ne (ne_of_none (by rw [upd_ne (ne_of e e1 (by intro z; cases z))]; exact e) np), upd_ne (ne_of e e1 (by intro z; cases z))]
        exact e
      refine ⟨_, .ask fd a' b' c', _, _, _, _, _, rfl, ?_, ?_, .ask upd_same (ta.keep kp) (tb.keep kp) (tc.keep kp), ?_, ?_, ?_⟩
      · have b5 := b23.trans (b4.trans c1)
        exact (b5.later ((b23.trans b4).free nD hDt)).trans (But.new np _)
      · exact (T5.upd hDt).same (same_new np _)
      · rcases cas with ⟨rfl, rfl, rfl⟩ | ⟨rfl, rfl, rfl⟩ | ⟨rfl, rfl, rfl⟩ <;> exact ⟨f0, f1, by first | exact hb | trivial, by first | exact hb | trivial, by first | exact hb | trivial⟩
      · rcases cas with ⟨rfl, rfl, rfl⟩ | ⟨rfl, rfl, rfl⟩ | ⟨rfl, rfl, rfl⟩ <;> (simp only [Tr.depth]; omega)
      · rcases cas with ⟨rfl, rfl, rfl⟩ | ⟨rfl, rfl, rfl⟩ | ⟨rfl, rfl, rfl⟩ <;> (simp only [Tr.asks]; omega)
  · rintro σ H2 ⟨v, x, s5, s6, s7, s8, s9, rfl, b2, T2, hx, hb, hd, ha⟩
    exact ⟨_, rfl, q H2 v x b2 T2 hx hb hd ha⟩

/-- one word at all its ends turned into "clash" -/
def spClash (m : Nat) : Sp := fun vs H Q _ => ∃ (v : V) (x : Tr) (w : Str), vs = [v, .str w] ∧ TreeAt H v x ∧ x.depth < m ∧
  ∀ (H' : Hp) (v' : V), Same H H' → TreeAt H' v' (x.clash w) → Q v' H'
def kid (k : Nat) (a b c : Tr) : Tr := match k with | 0 => a | 1 => b | _ => c
theorem dn_clash (B : Bts mg) (F : Df K mg "_law_clashing" s__law_clashing P__law_clashing) : ∀ m : Nat, Dn P w K mg base m "_law_clashing" (spClash m)
  | 0 => F.none (fun vs H Q E h => by obtain ⟨v, t, w, _, _, h, _⟩ := h; omega) 0
  | m + 1 => by
    have D__law_clashing := dn_clash B F m
    refine F.ok sc__law_clashing (fun vs H Q E h => ?_) (fun f cdv A outer s H vs Q E hr h => ?_)
    · obtain ⟨v, t, w, rfl, _⟩ := h; rfl
    obtain ⟨v, x, wd, rfl, hx, hd, q⟩ := h
    refine ⟨_, (pss_cons
          (ps_if (pt_val (pe_callB call_isi rfl B.isinstance_ boot_isinstance (pa_cons (pv 0) (pa_cons (pe_bltn (v := .ty "str") rfl B.str_ boot_str rfl) pa_nil)))) (pss_one
            (ps_ret (pe_dget2 (hu_of hr) (pe_disp (pps_cons (pv 1) pe_str pps_nil) rfl rfl (fun z => by cases z) (by decide)) (pv 0) (pv 0) ⟨rfl, rfl, rfl, rfl⟩))) pss_nil)
          (pss_cons
          (ps_setLc (i := 2) (own := [("_law_k", 3)]) (g := gName 3) (tt := tYes) rfl sc__law_clashing.nd rfl rfl (sw_true rfl rfl rfl (by decide +kernel)) (pi_range2 rfl B.range_ (pa_cons pe_int (pa_cons pe_int pa_nil))) (blkOk_by (own := [("_law_k", 3)]) (N := N__law_clashing) (sc := defScope s__law_clashing) (by decide +kernel)) (fun _ _ _ _ _ => pg_name (i := 3) sc__law_clashing.nd rfl (.inl rfl)) (fun _ _ _ _ _ => pts_nil) (fun _ _ _ _ _ => (My.pe_callD D__law_clashing (hr.mono (by omega)) rfl (pa_cons (pe_ix (ix_tupK (K := K) rfl) (pv 0) (pv 3) (fun _ _ => rfl)) (pa_cons (pv 1) pa_nil)))))
          (pss_one
          (ps_ret (pe_tup (pa_cons (pe_ix ix_tup (pv 0) pe_int (fun _ _ => rfl)) (pa_cons (pe_ix ix_list (pv 2) pe_int (fun _ _ => rfl)) (pa_cons (pe_ix ix_list (pv 2) pe_int (fun _ _ => rfl)) (pa_cons (pe_ix ix_list (pv 2) pe_int (fun _ _ => rfl)) pa_nil))))))))), ?_⟩
    cases x with
    | leaf s =>
      obtain rfl := hx.invL
      refine ⟨_, rfl, _, _, _, _, true, rfl, .ty _, .base (.str _), k_ss, ?_⟩
      refine ⟨_, rfl, ?_⟩
      refine iteT ?_
      intro p np
      refine ⟨_, rfl, upd_same, [(Sum.inr wd, .str "clash")], rfl, (by show 1 ≤ 15; decide), ?_⟩
      have hp : upd (upd H p (.dK [])) p (.dK (mergeK [] [(Sum.inr wd, .str "clash")])) p = some (.dK [(Sum.inr wd, .str "clash")]) := upd_same
      refine ⟨p, rfl, .inl ⟨_, Rd.of hp⟩, _, rfl, _, rfl, _, DGet.k (k := Sum.inr s) hp, ?_⟩
      refine q _ _ ?_ ?_
      · rw [upd_upd]; exact same_new np _
      · simp only [Tr.clash, valV]
        by_cases e : s = wd
        · subst e; simp; exact .leaf _
        · have e2 : ¬ wd = s := fun z => e z.symm
          simp [e, e2]; exact .leaf _
    | ask f a b c =>
      obtain ⟨p, va, vb, vc, rfl, hp, ha, hb, hc⟩ := hx.inv
      simp only [Tr.depth] at hd
      refine ⟨_, rfl, _, _, _, _, false, rfl, .ty _, .base (.tup hp), k_ts, ?_⟩
      refine ⟨_, rfl, ?_⟩
      refine iteF ?_
      refine ⟨1, 4, rfl, by decide, fun D nD => ?_⟩
      refine lc_range (lo := 1) (n := 3) (fun i H' => ∃ us : List V, H' D = some (.lst us) ∧ us.length = i ∧ Same H H' ∧ ∀ j u, us[j]? = some u → TreeAt H' u ((kid j a b c).clash wd))
        ⟨[], upd_same, rfl, same_new nD _, fun j u h => by simp at h⟩ ?_ ?_
      · rintro i H1 hi ⟨us, e1, l1, g1, t1⟩
        refine ⟨rfl, ?_⟩
        have step : ∀ (k : Nat) (u : V) (y : Tr), i = k → kid k a b c = y → atI [V.int f, va, vb, vc] (1 + (k : Int)) = some u → TreeAt H u y → y.depth < m → ∃ u, atI [V.int f, va, vb, vc] (1 + (i : Int)) = some u ∧ TreeAt H u (kid i a b c) ∧ (kid i a b c).depth < m := by
          rintro k u y rfl rfl h1 h2 h3
          exact ⟨u, h1, h2, h3⟩
        have : ∃ u, atI [V.int f, va, vb, vc] (1 + (i : Int)) = some u ∧ TreeAt H u (kid i a b c) ∧ (kid i a b c).depth < m := by
          have : i = 0 ∨ i = 1 ∨ i = 2 := by omega
          rcases this with h | h | h
          · exact step 0 va a h rfl rfl ha (by omega)
          · exact step 1 vb b h rfl rfl hb (by omega)
          · exact step 2 vc c h rfl rfl hc (by omega)
        obtain ⟨u, hu, hu2, hu3⟩ := this
        refine ⟨_, rfl, _, rfl, p, _, _, _, rfl, rfl, SqT.of (g1 _ _ hp), hu, ?_⟩
        refine ⟨_, rfl, u, _, wd, rfl, hu2.same g1, hu3, fun H2 v' g2 t2 => ?_⟩
        refine ⟨us, g2 _ _ e1, smallLt (by omega), us ++ [v'], upd_same, by simp [l1], (g1.trans g2).later nD, fun j u hj => ?_⟩
        by_cases h : j < us.length
        · rw [List.getElem?_append_left h] at hj
          exact ((t1 j u hj).same g2).keep fun p' xs e => upd_tup (g2 _ _ e1) e
        · have : j = us.length := by
            have := (List.getElem?_eq_some_iff.mp hj).1
            rw [List.length_append, List.length_singleton] at this
            omega
          subst this
          rw [List.getElem?_append_right (Nat.le_refl _), Nat.sub_self] at hj
          obtain rfl : v' = u := Option.some.inj hj
          rw [l1]
          exact t2.keep fun p' xs e => upd_tup (g2 _ _ e1) e
      · rintro H1 ⟨us, e1, l1, g1, t1⟩
        match us, l1 with
        | [u0, u1, u2], _ =>
          refine ⟨_, rfl, p, _, _, _, rfl, rfl, SqT.of (g1 _ _ hp), atI_0 _ _ _ _, ?_⟩
          refine ⟨_, rfl, D, _, _, _, rfl, rfl, SqL.of e1, rfl, ?_⟩
          refine ⟨_, rfl, D, _, _, _, rfl, rfl, SqL.of e1, rfl, ?_⟩
          refine ⟨_, rfl, D, _, _, _, rfl, rfl, SqL.of e1, rfl, ?_⟩
          refine ⟨small (by show 4 ≤ 100000; decide), fun p2 np2 => ?_⟩
          have g2 := same_new np2 (.tup [.int f, u0, u1, u2])
          exact q _ _ (g1.trans g2) (.ask upd_same ((t1 0 u0 rfl).same g2) ((t1 1 u1 rfl).same g2) ((t1 2 u2 rfl).same g2))

/-- follow, as the law does it -/
def spLFollow (K : PySem.W.Frag) : Sp := fun vs H Q _ => ∃ (v : V) (r : Addr) (t : Tr) (rs : List Int), vs = [v, .ref r] ∧ TreeAt H v t ∧ SqT K H r (rs.map V.int) ∧ (∀ z ∈ rs, z = -1 ∨ z = 0 ∨ z = 1) ∧ t.Below rs.length ∧ t.depth < 60 ∧
  Q (.str (t.follow rs)) H
theorem dn_lfollow (B : Bts mg) (F : Df K mg "_law_follow" s__law_follow P__law_follow) : Dn P w K mg base 1 "_law_follow" (spLFollow K) := by
  refine F.ok sc__law_follow (fun vs H Q E h => ?_) (fun f cdv A outer s H vs Q E hr h => ?_)
  · obtain ⟨v, r, t, rs, rfl, _⟩ := h; rfl
  obtain ⟨v, r, t, rs, rfl, ht, hr', hs, hb, hd, q⟩ := h
  refine ⟨_, (pss_cons
        (ps_for PassesOwn.never rfl (pi_range1 rfl B.range_ (pa_cons pe_int pa_nil)) (pg_name (i := 2) sc__law_follow.nd rfl (.inl rfl)) (pss_cons
          (ps_if (pt_val (pe_callB call_isi rfl B.isinstance_ boot_isinstance (pa_cons (pv 0) (pa_cons (pe_bltn (v := .ty "str") rfl B.str_ boot_str rfl) pa_nil)))) (pss_one
            (ps_ret (pv 0))) pss_nil)
          (pss_one
          (ps_set (i := 0) sc__law_follow.nd rfl (.inl rfl) (pe_ix ix_tup (pv 0) (pe_op op_add pe_int (pe_ix ix_tup (pv 1) (pe_ix ix_tup (pv 0) pe_int (fun _ _ => rfl)) (fun _ _ => rfl))) (fun _ _ => rfl))))))
        (pss_one
        (ps_ret (pv 0)))), ?_⟩
  refine ⟨60, rfl, by decide, by decide, ?_⟩
  refine for_range (lo := 0) (n := 60) (fun i σ H' => H' = H ∧ ∃ v' t' s2, σ = [some v', some (.ref r), s2] ∧ TreeAt H v' t' ∧ t'.depth + i < 60 ∧ t'.Below rs.length ∧ t'.follow rs = t.follow rs)
    ⟨rfl, v, t, _, rfl, ht, hd, hb, rfl⟩ ?_ ?_
  · rintro i σ H' hi ⟨rfl, v', t', s2, rfl, ht', hd', hb', e⟩
    cases t' with
    | leaf s =>
      obtain rfl := ht'.invL
      refine ⟨_, rfl, _, _, _, _, true, rfl, .ty _, .base (.str _), k_ss, ?_⟩
      refine ⟨_, rfl, ?_⟩
      refine iteT ?_
      refine ⟨_, rfl, ?_⟩
      rw [← e] at q
      exact q
    | ask f a b c =>
      obtain ⟨p, va, vb, vc, rfl, hp, ha, hbb, hc⟩ := ht'.inv
      obtain ⟨h1, h2, h3, h4, h5⟩ := hb'
      refine ⟨_, rfl, _, _, _, _, false, rfl, .ty _, .base (.tup hp), k_ts, ?_⟩
      refine ⟨_, rfl, ?_⟩
      refine iteF ?_
      have hat := sgn_at (rs := rs) h1 h2
      have hin := hs _ (sgn_in (rs := rs) h1 h2)
      simp only [Tr.depth] at hd'
      simp only [Tr.follow] at e
      refine ⟨_, rfl, _, rfl, _, rfl, p, _, _, _, rfl, rfl, SqT.of hp, atI_0 _ _ _ _, r, _, _, _, rfl, rfl, hr', hat, _, _, rfl, rfl, ?_⟩
      rcases hin with z | z | z
      · rw [z] at e ⊢
        exact ⟨p, _, _, va, rfl, rfl, SqT.of hp, rfl, rfl, va, a, _, rfl, ha, by omega, h3, e⟩
      · rw [z] at e ⊢
        exact ⟨p, _, _, vb, rfl, rfl, SqT.of hp, rfl, rfl, vb, b, _, rfl, hbb, by omega, h4, e⟩
      · rw [z] at e ⊢
        exact ⟨p, _, _, vc, rfl, rfl, SqT.of hp, rfl, rfl, vc, c, _, rfl, hc, by omega, h5, e⟩
  · rintro σ H' ⟨rfl, v', t', s2, rfl, ht', hd', _⟩
    omega

/-- the ends, as the law finds them -/
def spLEnds : Sp := fun vs H Q _ => ∃ (v : V) (t : Tr), vs = [v] ∧ TreeAt H v t ∧ t.asks < 400 ∧
  ∀ (p : Addr) (H' : Hp), Same H H' → H' p = some (.lst (t.ends.map V.str)) → Q (.ref p) H'
theorem dn_lends (B : Bts mg) (F : Df K mg "_law_ends" s__law_ends P__law_ends) : Dn P w K mg base 1 "_law_ends" spLEnds := by
  refine F.ok sc__law_ends (fun vs H Q E h => ?_) (fun f cdv A outer s H vs Q E hr h => ?_)
  · obtain ⟨v, t, rfl, _⟩ := h; rfl
  obtain ⟨v, t, rfl, ht, hz, q⟩ := h
  refine ⟨_, (pss_cons
        (ps_set (i := 1) sc__law_ends.nd rfl (.inl rfl) (pe_lst (pa_cons (pv 0) pa_nil)))
        (pss_cons
        (ps_set (i := 2) sc__law_ends.nd rfl (.inl rfl) (pe_lst pa_nil))
        (pss_cons
        (ps_for PassesOwn.never rfl (pi_range1 rfl B.range_ (pa_cons pe_int pa_nil)) (pg_name (i := 3) sc__law_ends.nd rfl (.inl rfl)) (pss_cons
          (ps_if (pt_cmpR op_eq (pe_callB call_len_seq rfl B.len_ PySem.boot_len (pa_cons (pv 1) pa_nil)) pe_int (nomark _)) (pss_one
            ps_break) pss_nil)
          (pss_cons
          (ps_set (i := 4) sc__law_ends.nd rfl (.inl rfl) (pe_bm PySem.F.plainAttrs_list PySem.F.slot_list_pop PySem.F.type_list_pop mt_popAt (pv 1) (pa_cons pe_int pa_nil)))
          (pss_one
          (ps_if (pt_val (pe_callB call_isi rfl B.isinstance_ boot_isinstance (pa_cons (pv 4) (pa_cons (pe_bltn (v := .ty "str") rfl B.str_ boot_str rfl) pa_nil)))) (pss_one
            (ps_expr (pe_bm PySem.F.plainAttrs_list PySem.F.slot_list_append PySem.F.type_list_append mt_append (pv 2) (pa_cons (pv 4) pa_nil)))) (pss_one
            (ps_set (i := 1) sc__law_ends.nd rfl (.inl rfl) (pe_op op_cat (pe_lst (pa_cons (pe_ix ix_tup (pv 4) pe_int (fun _ _ => rfl)) (pa_cons (pe_ix ix_tup (pv 4) pe_int (fun _ _ => rfl)) (pa_cons (pe_ix ix_tup (pv 4) pe_int (fun _ _ => rfl)) pa_nil)))) (pv 1)))))))))
        (pss_one
        (ps_ret (pv 2)))))), ?_⟩
  refine ⟨_, rfl, small (by show 1 ≤ 100000; decide), fun pl n1 => ?_⟩
  refine ⟨small (by show 0 ≤ 100000; decide), fun pf n2 => ?_⟩
  have g1 := same_new n1 (.lst [v])
  have g2 := same_new n2 (.lst [])
  have hne : pl ≠ pf := fun e => by subst e; rw [upd_same] at n2; cases n2
  refine ⟨1200, rfl, by decide, by decide, ?_⟩
  refine for_range (lo := 0) (n := 1200) (fun i σ H' => ∃ pl vs ts fs s3 s4, σ = [some v, some (.ref pl), some (.ref pf), s3, s4] ∧ Same H H' ∧ H pl = none ∧ H pf = none ∧ pl ≠ pf ∧ H' pl = some (.lst vs) ∧ TreesAt H' vs ts ∧
      H' pf = some (.lst (fs.map V.str)) ∧ fs ++ Tr.endsL ts = t.ends ∧ Tr.nodesL ts + i ≤ 1200)
    ⟨pl, [v], [t], [], _, _, rfl, g1.trans g2, n1, by rw [upd_ne hne.symm] at n2; exact n2, hne, g2 _ _ upd_same, .cons ((ht.same g1).same g2) .nil, upd_same, by simp [Tr.endsL], by simp only [Tr.nodesL]; omega⟩ ?_ ?_
  · rintro i σ H' hi ⟨pl, vs, ts, fs, s3, s4, rfl, g, k1, k2, hne, e1, tr, e2, hE, hN⟩
    have hl := t.ends_len
    have hfl : fs.length ≤ t.ends.length := by rw [← hE, List.length_append]; omega
    refine ⟨_, rfl, pl, vs, rfl, .inl (SqL.of e1), rfl, _, rfl, ?_⟩
    refine ite2 (fun c => ?_) (fun c => ?_)
    · have c' : V.int (vs.length : Int) = V.int 0 := of_decide_eq_true c
      injection c' with c'
      have : vs = [] := List.length_eq_zero_iff.mp (by omega)
      subst this
      cases tr
      refine ⟨_, rfl, q pf H' g ?_⟩
      rw [e2, ← hE, Tr.endsL, List.append_nil]
    · cases tr with
      | nil => exact absurd rfl c
      | @cons v0 t0 vs ts h0 tr =>
        have tl : vs.length = ts.length := Paired.length tr
        have nl := Tr.nodesL_len ts
        simp only [Tr.nodesL] at hN
        refine ⟨_, rfl, .inl ⟨rfl, _, SqL.of e1⟩, pl, _, 0, 0, v0, rfl, rfl, e1, by decide, by decide, by simp [seqIndex?], rfl, ?_⟩
        have e2' : upd H' pl (.lst ((v0 :: vs).eraseIdx 0)) pf = some (.lst (fs.map V.str)) := by rw [upd_ne hne.symm]; exact e2
        have kp : ∀ p' xs, H' p' = some (.tup xs) → upd H' pl (.lst ((v0 :: vs).eraseIdx 0)) p' = some (.tup xs) := fun p' xs e => upd_tup e1 e
        have h0' := h0.keep kp
        have tr' := TreesAt.keep kp tr
        have g' : Same H (upd H' pl (.lst ((v0 :: vs).eraseIdx 0))) := g.later k1
        cases t0 with
        | leaf s =>
          obtain rfl := h0.invL
          refine ⟨_, rfl, _, _, _, _, true, rfl, .ty _, .base (.str _), k_ss, ?_⟩
          refine ⟨_, rfl, ?_⟩
          refine iteT ?_
          refine ⟨_, rfl, .inl ⟨rfl, _, SqL.of e2'⟩, _, rfl, pf, _, _, rfl, rfl, e2', smallLt (by rw [List.length_map]; omega), ?_⟩
          refine ⟨pl, vs, ts, fs ++ [s], _, _, rfl, g'.later k2, k1, k2, hne, ?_, tr'.keep fun p' xs e => upd_tup e2' e, by rw [upd_same, List.map_append]; rfl, ?_, by omega⟩
          · rw [upd_ne hne]; exact upd_same
          · rw [← hE]; simp [Tr.endsL, Tr.ends]
        | ask f a b cc =>
          obtain ⟨p, va, vb, vc, rfl, hp, ha, hb, hc⟩ := h0'.inv
          simp only [Tr.asks] at hN
          refine ⟨_, rfl, _, _, _, _, false, rfl, .ty _, .base (.tup hp), k_ts, ?_⟩
          refine ⟨_, rfl, ?_⟩
          refine iteF ?_
          refine ⟨_, rfl, p, _, _, _, rfl, rfl, SqT.of hp, atI_1 _ _ _ _, ?_⟩
          refine ⟨_, rfl, p, _, _, _, rfl, rfl, SqT.of hp, atI_2 _ _ _ _, ?_⟩
          refine ⟨_, rfl, p, _, _, _, rfl, rfl, SqT.of hp, atI_3 _ _ _ _, ?_⟩
          refine ⟨small (by show 3 ≤ 100000; decide), fun p3 n3 => ?_⟩
          have h3 := same_new n3 (.lst [va, vb, vc])
          refine ⟨_, rfl, p3, pl, _, vs, rfl, rfl, upd_same, h3 _ _ upd_same, small (by show 3 + vs.length ≤ 100000; omega), fun p4 n4 => ?_⟩
          have h4 := same_new n4 (.lst ([va, vb, vc] ++ vs))
          have h34 := h3.trans h4
          have n4' : H p4 = none := (g'.trans h3).free n4
          refine ⟨p4, va :: vb :: vc :: vs, a :: b :: cc :: ts, fs, _, _, rfl, g'.trans h34, n4', k2, ?_, upd_same, ?_, h34 _ _ e2', ?_, ?_⟩
          · exact fun e => by subst e; exact ne_of_none (h3 _ _ e2') n4 rfl
          · exact .cons (ha.same h34) (.cons (hb.same h34) (.cons (hc.same h34) (tr'.keep fun p' xs e => h34 _ _ e)))
          · rw [← hE]; simp [Tr.endsL, Tr.ends]
          · simp only [Tr.nodesL]; omega
  · rintro σ H' ⟨pl, vs, ts, fs, s3, s4, rfl, g, k1, k2, hne, e1, tr, e2, hE, hN⟩
    cases ts with
    | nil =>
      refine ⟨_, rfl, q pf H' g ?_⟩
      rw [e2, ← hE, Tr.endsL, List.append_nil]
    | cons x ts => simp only [Tr.nodesL] at hN; omega

/-- the asked fields, as the law finds them -/
def spLAsked : Sp := fun vs H Q _ => ∃ (v : V) (t : Tr), vs = [v] ∧ TreeAt H v t ∧ t.asks < 400 ∧
  ∀ (p : Addr) (H' : Hp) (fs : List Int), Same H H' → fs.Pairwise (· < ·) → (∀ k, k ∈ fs ↔ k ∈ t.fields) → H' p = some (.lst (fs.map V.int)) → Q (.ref p) H'
theorem Paired.snocInv {α β : Type} {R : α → β → Prop} : ∀ {l₁ : List α} {l₂ : List β}, Paired R l₁ l₂ → l₁ ≠ [] → ∃ a b m₁ m₂, l₁ = m₁ ++ [a] ∧ l₂ = m₂ ++ [b] ∧ R a b ∧ Paired R m₁ m₂
  | _, _, .nil, h => absurd rfl h
  | _, _, .cons (a := a) (b := b) (l₁ := []) (l₂ := []) r .nil, _ => ⟨a, b, [], [], rfl, rfl, r, .nil⟩
  | _, _, .cons (a := a) (b := b) r (.cons (a := a') (b := b') r' t), _ => by
    obtain ⟨x, y, m₁, m₂, e1, e2, q1, q2⟩ := Paired.snocInv (.cons r' t) (by intro z; cases z)
    exact ⟨x, y, a :: m₁, b :: m₂, by rw [e1]; rfl, by rw [e2]; rfl, q1, .cons r q2⟩
theorem dn_lasked (B : Bts mg) (F : Df K mg "_law_asked" s__law_asked P__law_asked) : Dn P w K mg base 1 "_law_asked" spLAsked := by
  refine F.ok sc__law_asked (fun vs H Q E h => ?_) (fun f cdv A outer s H vs Q E hr h => ?_)
  · obtain ⟨v, t, rfl, _⟩ := h; rfl
  obtain ⟨v, t, rfl, ht, hz, q⟩ := h
  refine ⟨_, (pss_cons
        (ps_set (i := 1) sc__law_asked.nd rfl (.inl rfl) (pe_lst (pa_cons (pv 0) pa_nil)))
        (pss_cons
        (ps_set (i := 2) sc__law_asked.nd rfl (.inl rfl) (pe_lst pa_nil))
        (pss_cons
        (ps_for PassesOwn.never rfl (pi_range1 rfl B.range_ (pa_cons pe_int pa_nil)) (pg_name (i := 3) sc__law_asked.nd rfl (.inl rfl)) (pss_cons
          (ps_if (pt_cmpR op_eq (pe_callB call_len_seq rfl B.len_ PySem.boot_len (pa_cons (pv 1) pa_nil)) pe_int (nomark _)) (pss_one
            ps_break) pss_nil)
          (pss_cons
          (ps_set (i := 4) sc__law_asked.nd rfl (.inl rfl) (pe_bm0 PySem.F.plainAttrs_list PySem.F.slot_list_pop PySem.F.type_list_pop mt_pop (pv 1)))
          (pss_one
          (ps_if (pt_not (pt_val (pe_callB call_isi rfl B.isinstance_ boot_isinstance (pa_cons (pv 4) (pa_cons (pe_bltn (v := .ty "str") rfl B.str_ boot_str rfl) pa_nil))))) (pss_cons
            (ps_set (i := 1) sc__law_asked.nd rfl (.inl rfl) (pe_op op_cat (pv 1) (pe_lst (pa_cons (pe_ix ix_tup (pv 4) pe_int (fun _ _ => rfl)) (pa_cons (pe_ix ix_tup (pv 4) pe_int (fun _ _ => rfl)) (pa_cons (pe_ix ix_tup (pv 4) pe_int (fun _ _ => rfl)) pa_nil))))))
            (pss_one
            (ps_if (pt_cmpR op_notIn_seq (pe_ix ix_tup (pv 4) pe_int (fun _ _ => rfl)) (pv 2) (by rfl)) (pss_one
              (ps_expr (pe_bm PySem.F.plainAttrs_list PySem.F.slot_list_append PySem.F.type_list_append mt_append (pv 2) (pa_cons (pe_ix ix_tup (pv 4) pe_int (fun _ _ => rfl)) pa_nil)))) pss_nil))) pss_nil)))))
        (pss_one
        (ps_ret (pe_callB cr_sortedI rfl B.sorted_ boot_sorted (pa_cons (pv 2) pa_nil))))))), ?_⟩
  refine ⟨_, rfl, small (by show 1 ≤ 100000; decide), fun pl n1 => ?_⟩
  refine ⟨small (by show 0 ≤ 100000; decide), fun pf n2 => ?_⟩
  have g1 := same_new n1 (.lst [v])
  have g2 := same_new n2 (.lst [])
  have hne : pl ≠ pf := fun e => by subst e; rw [upd_same] at n2; cases n2
  refine ⟨1200, rfl, by decide, by decide, ?_⟩
  have fin : ∀ (H' : Hp) (fs : List Int), Same H H' → H' pf = some (.lst (fs.map V.int)) → fs.Nodup → (∀ k, k ∈ fs ↔ k ∈ t.fields) →
      ∀ (ns : List Int) (p : Addr), ns.Perm fs → ns.Pairwise (· ≤ ·) → H' p = none → Q (.ref p) (upd H' p (.lst (ns.map V.int))) := fun H' fs g e nd m ns p pm pw np =>
    q p _ ns (g.trans (same_new np _)) (le_nodup_lt pw (pm.nodup_iff.mpr nd)) (fun k => (pm.mem_iff).trans (m k)) upd_same
  refine for_range (lo := 0) (n := 1200) (fun i σ H' => ∃ pl vs ts fs s3 s4, σ = [some v, some (.ref pl), some (.ref pf), s3, s4] ∧ Same H H' ∧ H pl = none ∧ H pf = none ∧ pl ≠ pf ∧ H' pl = some (.lst vs) ∧ TreesAt H' vs ts ∧
      H' pf = some (.lst (fs.map V.int)) ∧ fs.Nodup ∧ (∀ k, k ∈ fs ∨ k ∈ Tr.fieldsL ts ↔ k ∈ t.fields) ∧ Tr.nodesL ts + i ≤ 1200 ∧ fs.length ≤ i)
    ⟨pl, [v], [t], [], _, _, rfl, g1.trans g2, n1, by rw [upd_ne hne.symm] at n2; exact n2, hne, g2 _ _ upd_same, .cons ((ht.same g1).same g2) .nil, upd_same, .nil, by simp [Tr.fieldsL], by simp only [Tr.nodesL]; omega, Nat.le_refl _⟩ ?_ ?_
  · rintro i σ H' hi ⟨pl, vs, ts, fs, s3, s4, rfl, g, k1, k2, hne, e1, tr, e2, nd, hE, hN, hF⟩
    refine ⟨_, rfl, pl, vs, rfl, .inl (SqL.of e1), rfl, _, rfl, ?_⟩
    refine ite2 (fun c => ?_) (fun c => ?_)
    · have c' : V.int (vs.length : Int) = V.int 0 := of_decide_eq_true c
      injection c' with c'
      have : vs = [] := List.length_eq_zero_iff.mp (by omega)
      subst this
      cases tr
      exact ⟨_, rfl, pf, fs, rfl, SqL.of e2, fin H' fs g e2 nd fun k => by rw [← hE k]; simp [Tr.fieldsL]⟩
    · have vne : vs ≠ [] := fun e => by subst e; exact c rfl
      obtain ⟨v0, t0, vs, ts, rfl, rfl, h0, tr⟩ := Paired.snocInv tr vne
      have tl : vs.length = ts.length := Paired.length tr
      have nl := Tr.nodesL_len ts
      rw [Tr.nodesL_app] at hN
      simp only [Tr.nodesL] at hN
      refine ⟨_, rfl, .inl ⟨rfl, _, SqL.of e1⟩, pl, _, v0, rfl, rfl, e1, by simp, ?_⟩
      rw [show (vs ++ [v0]).dropLast = vs by simp]
      have e2' : upd H' pl (.lst vs) pf = some (.lst (fs.map V.int)) := by rw [upd_ne hne.symm]; exact e2
      have kp : ∀ p' xs, H' p' = some (.tup xs) → upd H' pl (.lst vs) p' = some (.tup xs) := fun p' xs e => upd_tup e1 e
      have h0' := h0.keep kp
      have tr' := TreesAt.keep kp tr
      have g' : Same H (upd H' pl (.lst vs)) := g.later k1
      cases t0 with
      | leaf s =>
        obtain rfl := h0.invL
        refine ⟨_, rfl, _, _, _, _, true, rfl, .ty _, .base (.str _), k_ss, ?_⟩
        refine ⟨_, rfl, ?_⟩
        refine iteF ?_
        refine ⟨pl, vs, ts, fs, _, _, rfl, g', k1, k2, hne, upd_same, tr', e2', nd, fun k => ?_, by omega, by omega⟩
        rw [← hE k, Tr.fieldsL_app]; simp [Tr.fieldsL, Tr.fields]
      | ask f a b cc =>
        obtain ⟨p, va, vb, vc, rfl, hp, ha, hb, hc⟩ := h0'.inv
        simp only [Tr.asks] at hN
        refine ⟨_, rfl, _, _, _, _, false, rfl, .ty _, .base (.tup hp), k_ts, ?_⟩
        refine ⟨_, rfl, ?_⟩
        refine iteT ?_
        refine ⟨_, rfl, ?_⟩
        refine ⟨_, rfl, p, _, _, _, rfl, rfl, SqT.of hp, atI_1 _ _ _ _, ?_⟩
        refine ⟨_, rfl, p, _, _, _, rfl, rfl, SqT.of hp, atI_2 _ _ _ _, ?_⟩
        refine ⟨_, rfl, p, _, _, _, rfl, rfl, SqT.of hp, atI_3 _ _ _ _, ?_⟩
        refine ⟨small (by show 3 ≤ 100000; decide), fun p3 n3 => ?_⟩
        have h3 := same_new n3 (.lst [va, vb, vc])
        refine ⟨pl, p3, vs, _, rfl, rfl, h3 _ _ upd_same, upd_same, small (by show vs.length + 3 ≤ 100000; omega), fun p4 n4 => ?_⟩
        have h4 := same_new n4 (.lst (vs ++ [va, vb, vc]))
        have h34 := h3.trans h4
        have n4' : H p4 = none := (g'.trans h3).free n4
        have tr3 : TreesAt (upd (upd (upd H' pl (.lst vs)) p3 (.lst [va, vb, vc])) p4 (.lst (vs ++ [va, vb, vc]))) (vs ++ [va, vb, vc]) (ts ++ [a, b, cc]) := by
          have z := ((tr'.keep fun p' xs e => h34 _ _ e).snoc (ha.same h34)).snoc (hb.same h34) |>.snoc (hc.same h34)
          simpa using z
        have hne4 : p4 ≠ pf := fun e => by subst e; exact ne_of_none (h3 _ _ e2') n4 rfl
        have hp4 := h34 _ _ hp
        have e24 := h34 _ _ e2'
        refine ⟨_, rfl, p, _, _, _, rfl, rfl, SqT.of hp4, atI_0 _ _ _ _, ?_⟩
        refine ⟨_, rfl, pf, _, rfl, .inl (SqL.of e24), rfl, flat_ints fs, _, rfl, ?_⟩
        rw [inV_int]
        refine ite2 (fun c => ?_) (fun c => ?_)
        · have hnf : f ∉ fs := by simpa using c
          refine ⟨_, rfl, .inl ⟨rfl, _, SqL.of e24⟩, _, rfl, p, _, _, _, rfl, rfl, SqT.of hp4, atI_0 _ _ _ _, ?_⟩
          refine ⟨pf, _, _, rfl, rfl, e24, smallLt (by rw [List.length_map]; omega), ?_⟩
          refine ⟨p4, _, ts ++ [a, b, cc], fs ++ [f], _, _, rfl, (g'.trans h34).later k2, n4', k2, hne4, by rw [upd_ne hne4]; exact upd_same, tr3.keep fun p' xs e => upd_tup e24 e, by rw [upd_same, List.map_append]; rfl, ?_, ?_, ?_, ?_⟩
          · exact List.nodup_append.mpr ⟨nd, by simp, fun x hx y hy e => by rw [List.mem_singleton] at hy; subst hy; subst e; exact hnf hx⟩
          · intro k
            rw [← hE k, Tr.fieldsL_app, Tr.fieldsL_app]
            simp only [Tr.fieldsL, Tr.fields, List.mem_append, List.mem_singleton, List.not_mem_nil, or_false, List.append_nil]
            constructor
            · rintro ((h | h) | h | h | h | h)
              · exact .inl h
              · exact .inr (.inr (.inl (.inl (.inl h))))
              · exact .inr (.inl h)
              · exact .inr (.inr (.inl (.inl (.inr h))))
              · exact .inr (.inr (.inl (.inr h)))
              · exact .inr (.inr (.inr h))
            · rintro (h | h | ((h | h) | h) | h)
              · exact .inl (.inl h)
              · exact .inr (.inl h)
              · exact .inl (.inr h)
              · exact .inr (.inr (.inl h))
              · exact .inr (.inr (.inr (.inl h)))
              · exact .inr (.inr (.inr (.inr h)))
          · rw [Tr.nodesL_app]; simp only [Tr.nodesL]; omega
          · rw [List.length_append, List.length_singleton]; omega
        · have hf : f ∈ fs := by simpa using c
          refine ⟨p4, _, ts ++ [a, b, cc], fs, _, _, rfl, g'.trans h34, n4', k2, hne4, upd_same, tr3, e24, nd, ?_, ?_, by omega⟩
          · intro k
            rw [← hE k, Tr.fieldsL_app, Tr.fieldsL_app]
            simp only [Tr.fieldsL, Tr.fields, List.mem_append, List.mem_singleton, List.not_mem_nil, or_false, List.append_nil]
            constructor
            · rintro (h | h | h | h | h)
              · exact .inl h
              · exact .inr (.inl h)
              · exact .inr (.inr (.inl (.inl (.inr h))))
              · exact .inr (.inr (.inl (.inr h)))
              · exact .inr (.inr (.inr h))
            · rintro (h | h | ((h | h) | h) | h)
              · exact .inl h
              · exact .inr (.inl h)
              · subst h; exact .inl hf
              · exact .inr (.inr (.inl h))
              · exact .inr (.inr (.inr (.inl h)))
              · exact .inr (.inr (.inr (.inr h)))
          · rw [Tr.nodesL_app]; simp only [Tr.nodesL]; omega
  · rintro σ H' ⟨pl, vs, ts, fs, s3, s4, rfl, g, k1, k2, hne, e1, tr, e2, nd, hE, hN, hF⟩
    cases ts with
    | nil => exact ⟨_, rfl, pf, fs, rfl, SqL.of e2, fin H' fs g e2 nd fun k => by rw [← hE k]; simp [Tr.fieldsL]⟩
    | cons x ts => simp only [Tr.nodesL] at hN; omega

def spIsInt : Sp := fun vs H Q _ => ∃ i : Int, vs = [.int i] ∧ Q (.bl true) H
theorem dn_isint (B : Bts mg) (F : Df K mg "_law_is_integer" s__law_is_integer P__law_is_integer) : Dn P w K mg base 1 "_law_is_integer" spIsInt := by
  refine F.ok sc__law_is_integer (fun vs H Q E h => ?_) (fun f cdv A outer s H vs Q E hr h => ?_)
  · obtain ⟨i, rfl, _⟩ := h; rfl
  obtain ⟨i, rfl, q⟩ := h
  refine ⟨_, (pss_one
        (ps_ret (pe_and (pe_callB call_isi rfl B.isinstance_ boot_isinstance (pa_cons (pv 0) (pa_cons (pe_bltn (v := .ty "int") rfl B.int_ boot_int rfl) pa_nil))) (pe_one (pe_not (pe_callB call_isi rfl B.isinstance_ boot_isinstance (pa_cons (pv 0) (pa_cons (pe_bltn (v := .ty "bool") rfl B.bool_ boot_bool rfl) pa_nil)))))))), ?_⟩
  refine ⟨_, rfl, _, _, _, _, true, rfl, .ty _, .base (.int _), k_ii, ?_⟩
  refine ⟨_, rfl, ?_⟩
  refine iteT ?_
  exact ⟨_, rfl, _, _, _, _, false, rfl, .ty _, .base (.int _), k_ib, _, rfl, q⟩

def spAsc : Sp := fun vs H Q _ => ∃ (p : Addr) (n : Int) (fs : List Int), vs = [.ref p, .int n] ∧ H p = some (.tup (fs.map V.int)) ∧ fs.Pairwise (· < ·) ∧ (∀ k ∈ fs, 0 ≤ k ∧ k < n) ∧ Q (.bl true) H
theorem dn_asc (B : Bts mg) (F : Df K mg "_law_is_ascending" s__law_is_ascending P__law_is_ascending) (D__law_is_integer : Dn P w K mg base 1 "_law_is_integer" spIsInt) : Dn P w K mg base 2 "_law_is_ascending" spAsc := by
  refine F.ok sc__law_is_ascending (fun vs H Q E h => ?_) (fun f cdv A outer s H vs Q E hr h => ?_)
  · obtain ⟨p, n, fs, rfl, _⟩ := h; rfl
  obtain ⟨p, n, fs, rfl, hp, pw, hm, q⟩ := h
  refine ⟨_, (pss_cons
        (ps_if (pt_not (pt_val (pe_callB call_isi rfl B.isinstance_ boot_isinstance (pa_cons (pv 0) (pa_cons (pe_bltn (v := .ty "tuple") rfl B.tuple_ boot_tuple rfl) pa_nil))))) (pss_one
          (ps_ret pe_bl)) pss_nil)
        (pss_cons
        (ps_set (i := 2) sc__law_is_ascending.nd rfl (.inl rfl) (pe_op op_sub pe_int pe_int))
        (pss_cons
        (ps_for PassesOwn.never rfl (pi_tup (pv 0)) (pg_name (i := 3) sc__law_is_ascending.nd rfl (.inl rfl)) (pss_cons
          (ps_if (PW.pt (pw_or (pt_not (pt_val (My.pe_callD D__law_is_integer (hr.mono (by omega)) rfl (pa_cons (pv 3) pa_nil)))) (pw_or1 (pt_not (pt_chain op_lt op_lt (pv 2) (pv 3) (pv 1)))))) (pss_one
            (ps_ret pe_bl)) pss_nil)
          (pss_one
          (ps_set (i := 2) sc__law_is_ascending.nd rfl (.inl rfl) (pv 3)))))
        (pss_one
        (ps_ret pe_bl))))), ?_⟩
  refine ⟨_, rfl, _, _, _, _, true, rfl, .ty _, .base (.tup hp), k_tt, ?_⟩
  refine ⟨_, rfl, ?_⟩
  refine iteF ?_
  refine ⟨_, _, rfl, rfl, ?_⟩
  refine ⟨_, rfl, p, rfl, ⟨_, SqT.of hp⟩, ?_⟩
  refine for_tup (xs := fs.map V.int) (fun i σ H' => H' = H ∧ ∃ (last : Int) (s3 : Option V), σ = [some (.ref p), some (.int n), some (.int last), s3] ∧ ∀ z, fs[i]? = some z → last < z)
    ⟨rfl, _, _, rfl, fun z hz => by have := hm z (List.mem_of_getElem? hz); omega⟩ ?_ ?_ ?_
  · rintro i σ H' _ ⟨rfl, _⟩
    exact SqT.of hp
  · rintro i x σ H' hx ⟨rfl, last, s3, rfl, hl⟩
    rw [List.getElem?_map] at hx
    obtain ⟨z, hz, rfl⟩ := Option.map_eq_some_iff.mp hx
    have h1 := hm z (List.mem_of_getElem? hz)
    have h2 := hl z hz
    refine ⟨_, rfl, z, rfl, ?_⟩
    refine ⟨_, rfl, ?_⟩
    refine iteF ?_
    refine ⟨_, rfl, _, rfl, _, _, rfl, rfl, _, rfl, ?_⟩
    refine ite2 (fun c => ?_) (fun c => absurd (decide_eq_true h2) c)
    refine ⟨_, rfl, _, _, rfl, rfl, _, rfl, ?_⟩
    rw [decide_eq_true h1.2]
    refine iteF ?_
    refine ⟨_, rfl, rfl, _, _, rfl, fun y hy => ?_⟩
    obtain ⟨b0, e0⟩ := List.getElem?_eq_some_iff.mp hz
    obtain ⟨b1, e1⟩ := List.getElem?_eq_some_iff.mp hy
    have := List.pairwise_iff_getElem.mp pw i (i + 1) b0 b1 (by omega)
    rw [e0, e1] at this
    exact this
  · rintro σ H' ⟨rfl, last, s3, rfl, _⟩
    exact q

def spWords : Sp := fun vs H Q _ => ∃ (p r : Addr) (ws : List Str), vs = [.ref p, .ref r] ∧ H p = some (.tup (ws.map V.str)) ∧ H r = some (.lst (ws.map V.str)) ∧ ws.length < 100000 ∧ Q (.bl true) H
theorem dn_words (B : Bts mg) (F : Df K mg "_law_are_words" s__law_are_words P__law_are_words) : Dn P w K mg base 1 "_law_are_words" spWords := by
  refine F.ok sc__law_are_words (fun vs H Q E h => ?_) (fun f cdv A outer s H vs Q E hr h => ?_)
  · obtain ⟨p, r, ws, rfl, _⟩ := h; rfl
  obtain ⟨p, r, ws, rfl, hp, hr', hz, q⟩ := h
  refine ⟨_, (pss_cons
        (ps_if (PW.pt (pw_or (pt_not (pt_val (pe_callB call_isi rfl B.isinstance_ boot_isinstance (pa_cons (pv 0) (pa_cons (pe_bltn (v := .ty "tuple") rfl B.tuple_ boot_tuple rfl) pa_nil))))) (pw_or1 (pt_cmpR op_ne (pe_callB call_len_seq rfl B.len_ PySem.boot_len (pa_cons (pv 0) pa_nil)) (pe_callB call_len_seq rfl B.len_ PySem.boot_len (pa_cons (pv 1) pa_nil)) (nomark _))))) (pss_one
          (ps_ret pe_bl)) pss_nil)
        (pss_cons
        (ps_for PassesOwn.never rfl (pi_range1 rfl B.range_ (pa_cons (pe_callB call_len_seq rfl B.len_ PySem.boot_len (pa_cons (pv 1) pa_nil)) pa_nil)) (pg_name (i := 2) sc__law_are_words.nd rfl (.inl rfl)) (pss_one
          (ps_if (PW.pt (pw_or (pt_not (pt_val (pe_callB call_isi rfl B.isinstance_ boot_isinstance (pa_cons (pe_ix ix_tup (pv 0) (pv 2) (fun _ _ => rfl)) (pa_cons (pe_bltn (v := .ty "str") rfl B.str_ boot_str rfl) pa_nil))))) (pw_or1 (pt_cmpR op_ne (pe_ix ix_tup (pv 0) (pv 2) (fun _ _ => rfl)) (pe_ix ix_list (pv 1) (pv 2) (fun _ _ => rfl)) (nomark _))))) (pss_one
            (ps_ret pe_bl)) pss_nil)))
        (pss_one
        (ps_ret pe_bl)))), ?_⟩
  refine ⟨_, rfl, _, _, _, _, true, rfl, .ty _, .base (.tup hp), k_tt, ?_⟩
  refine ⟨_, rfl, ?_⟩
  refine iteF ?_
  refine ⟨_, rfl, p, _, rfl, .inr (SqT.of hp), _, rfl, r, _, rfl, .inl (SqL.of hr'), rfl, _, rfl, ?_⟩
  refine iteNS rfl ?_
  refine ⟨_, rfl, r, _, rfl, .inl (SqL.of hr'), _, rfl, by omega, by rw [List.length_map]; omega, ?_⟩
  refine for_range (lo := 0) (n := (((ws.map V.str).length : Nat) : Int).toNat) (fun i σ H' => H' = H ∧ ∃ s2, σ = [some (.ref p), some (.ref r), s2]) ⟨rfl, _, rfl⟩ ?_ ?_
  · rintro i σ H' hi ⟨rfl, s2, rfl⟩
    have hi' : i < ws.length := by rw [List.length_map] at hi; omega
    have hat : atI (ws.map V.str) (0 + (i : Int)) = some (.str ws[i]) := by
      rw [Int.zero_add]
      exact atI_nat (by rw [List.getElem?_map, List.getElem?_eq_getElem hi']; rfl)
    refine ⟨_, rfl, _, rfl, p, _, _, _, rfl, rfl, SqT.of hp, hat, _, _, _, _, true, rfl, .ty _, .base (.str _), k_ss, ?_⟩
    refine ⟨_, rfl, ?_⟩
    refine iteF ?_
    refine ⟨_, rfl, _, rfl, p, _, _, _, rfl, rfl, SqT.of hp, hat, _, rfl, _, rfl, r, _, _, _, rfl, rfl, SqL.of hr', hat, rfl, _, rfl, ?_⟩
    refine iteNS rfl ?_
    exact ⟨rfl, _, rfl⟩
  · rintro σ H' ⟨rfl, s2, rfl⟩
    exact q

def sp_law (K : PySem.W.Frag) : Sp := fun vs H Q _ => ∃ (a : Addr) (ns : List Int), vs = [.ref a] ∧ SqL K H a (ns.map V.int) ∧ ns.length ≤ 63 ∧ ∀ H', Q (.bl true) H'
/-- a row of signs lies at v -/
def RowAt (H : Hp) (n : Int) (v : V) : Prop := ∃ (p : Addr) (rs : List Int), v = .ref p ∧ H p = some (.tup (rs.map V.int)) ∧ (rs.length : Int) = n ∧ ∀ z ∈ rs, z = -1 ∨ z = 0 ∨ z = 1
theorem RowAt.keep {H H' : Hp} {n : Int} {v : V} (k : ∀ p xs, H p = some (.tup xs) → H' p = some (.tup xs)) (h : RowAt H n v) : RowAt H' n v := by
  obtain ⟨p, rs, rfl, h, q⟩ := h
  exact ⟨p, rs, rfl, k _ _ h, q⟩
theorem ok_law {f : Addr} {fd : FuncData} (B : Bts mg) (F : Fun K "law" "law" s_law f fd) (D__law_tape : Dn P w K mg base 1 "_law_tape" (spTape K)) (D__law_take : Dn P w K mg base 1 "_law_take" spTake)
    (D__law_row : Dn P w K mg base 2 "_law_row" spRow) (D__law_vine : Dn P w K mg base 2 "_law_vine" spVine) (D__law_wide : Dn P w K mg base 2 "_law_wide" spWide) (D__law_tree : Dn P w K mg base 10 "_law_tree" (spTree 8))
    (D__law_clashing : Dn P w K mg base 60 "_law_clashing" (spClash 60)) (D__law_ends : Dn P w K mg base 1 "_law_ends" spLEnds) (D__law_asked : Dn P w K mg base 1 "_law_asked" spLAsked) (D__law_follow : Dn P w K mg base 1 "_law_follow" (spLFollow K))
    (D__law_are_words : Dn P w K mg base 1 "_law_are_words" spWords) (D__law_is_ascending : Dn P w K mg base 2 "_law_is_ascending" spAsc)
    (D_follow : Dn P w K mg base 2 "follow" (spFollow K)) (D_ends : Dn P w K mg base 60 "ends" (spEnds 60)) (D_asked : Dn P w K mg base 61 "asked" spAsked) : FnOk P w K mg base CX0 62 f fd P_law (sp_law K) := by
  refine F.ok sc_law (fun vs H Q E h => ?_) (fun cdv A outer s H vs Q E hr h => ?_)
  · obtain ⟨a, ns, rfl, _⟩ := h; rfl
  obtain ⟨a, ns, rfl, hS, h63, q⟩ := h
  refine ⟨_, (pss_cons
        (ps_set (i := 1) sc_law.nd rfl (.inl rfl) (My.pe_callD D__law_tape (hr.mono (by omega)) rfl (pa_cons (pv 0) (pa_cons pe_int pa_nil))))
        (pss_cons
        (ps_set (i := 2) sc_law.nd rfl (.inr rfl) (pe_op op_add pe_int (My.pe_callD D__law_take (hr.mono (by omega)) rfl (pa_cons (pv 1) (pa_cons pe_int pa_nil)))))
        (pss_cons
        (ps_set (i := 3) sc_law.nd rfl (.inl rfl) (My.pe_callD D__law_take (hr.mono (by omega)) rfl (pa_cons (pv 1) (pa_cons pe_int pa_nil))))
        (pss_cons
        (ps_set (i := 4) sc_law.nd rfl (.inl rfl) (pe_op op_add pe_int (My.pe_callD D__law_take (hr.mono (by omega)) rfl (pa_cons (pv 1) (pa_cons pe_int pa_nil)))))
        (pss_cons
        (ps_setLc (i := 5) (own := [("_law_k", 6)]) (g := gName 6) (tt := tYes) rfl sc_law.nd rfl rfl (sw_true rfl rfl rfl (by decide +kernel)) (pi_range1 rfl B.range_ (pa_cons pe_int pa_nil)) (blkOk_by (own := [("_law_k", 6)]) (N := N_law) (sc := defScope s_law) (by decide +kernel)) (fun _ _ _ _ _ => pg_name (i := 6) sc_law.nd rfl (.inl rfl)) (fun _ _ _ _ _ => pts_nil) (fun _ _ _ _ _ => (My.pe_callD D__law_row (hr.mono (by omega)) rfl (pa_cons (My.pe_callD D__law_tape (hr.mono (by omega)) rfl (pa_cons (pv 0) (pa_cons (pe_op op_add pe_int (pv 6)) pa_nil))) (pa_cons (pv 2) pa_nil)))))
        (pss_cons
        (ps_if (pt_cmpR op_eq (pv 3) pe_int (nomark _)) (pss_one
          (ps_set (i := 7) sc_law.nd rfl (.inl rfl) (My.pe_callD D__law_vine (hr.mono (by omega)) rfl (pa_cons (pv 1) (pa_cons (pv 2) (pa_cons (pe_op op_add pe_int (My.pe_callD D__law_take (hr.mono (by omega)) rfl (pa_cons (pv 1) (pa_cons pe_int pa_nil)))) (pa_cons (pe_ix ix_list (pv 5) pe_int (fun _ _ => rfl)) pa_nil))))))) (pss_one
          (ps_if (pt_cmpR op_eq (pv 3) pe_int (nomark _)) (pss_one
            (ps_set (i := 7) sc_law.nd rfl (.inl rfl) (My.pe_callD D__law_wide (hr.mono (by omega)) rfl (pa_cons (pv 1) (pa_cons (pv 2) (pa_cons (My.pe_callD D__law_tree (hr.mono (by omega)) rfl (pa_cons (pv 1) (pa_cons (pv 2) (pa_cons (pe_op op_sub (pv 4) pe_int) pa_nil)))) (pa_cons pe_int pa_nil))))))) (pss_one
            (ps_if (pt_cmpR op_eq (pv 3) pe_int (nomark _)) (pss_one
              (ps_set (i := 7) sc_law.nd rfl (.inl rfl) (My.pe_callD D__law_wide (hr.mono (by omega)) rfl (pa_cons (pv 1) (pa_cons (pv 2) (pa_cons (My.pe_callD D__law_tree (hr.mono (by omega)) rfl (pa_cons (pv 1) (pa_cons (pv 2) (pa_cons (pv 4) pa_nil)))) (pa_cons pe_int pa_nil))))))) (pss_one
              (ps_set (i := 7) sc_law.nd rfl (.inl rfl) (My.pe_callD D__law_tree (hr.mono (by omega)) rfl (pa_cons (pv 1) (pa_cons (pv 2) (pa_cons (pv 4) pa_nil)))))))))))
        (pss_cons
        (ps_if (pt_cmpR op_eq (My.pe_callD D__law_take (hr.mono (by omega)) rfl (pa_cons (pv 1) (pa_cons pe_int pa_nil))) pe_int (nomark _)) (pss_one
          (ps_set (i := 7) sc_law.nd rfl (.inl rfl) (My.pe_callD D__law_clashing (hr.mono (by omega)) rfl (pa_cons (pv 7) (pa_cons (pe_ix ix_list (pe_lst (pa_cons pe_str (pa_cons pe_str pa_nil))) (My.pe_callD D__law_take (hr.mono (by omega)) rfl (pa_cons (pv 1) (pa_cons pe_int pa_nil))) (fun _ _ => rfl)) pa_nil))))) pss_nil)
        (pss_cons
        (ps_set (i := 8) sc_law.nd rfl (.inl rfl) (My.pe_callD D__law_ends (hr.mono (by omega)) rfl (pa_cons (pv 7) pa_nil)))
        (pss_cons
        (ps_set (i := 9) sc_law.nd rfl (.inl rfl) (My.pe_callD D__law_asked (hr.mono (by omega)) rfl (pa_cons (pv 7) pa_nil)))
        (pss_cons
        (ps_for PassesOwn.never rfl (pi_range1 rfl B.range_ (pa_cons pe_int pa_nil)) (pg_name (i := 10) sc_law.nd rfl (.inl rfl)) (pss_cons
          (ps_for PassesOwn.never rfl (pi_list (pv 5)) (pg_name (i := 11) sc_law.nd rfl (.inl rfl)) (pss_cons
            (ps_set (i := 12) sc_law.nd rfl (.inl rfl) (My.pe_callD D_follow (hr.mono (by omega)) rfl (pa_cons (pv 7) (pa_cons (pv 11) pa_nil))))
            (pss_one
            (ps_if (PW.pt (pw_or (pt_not (pt_val (pe_callB call_isi rfl B.isinstance_ boot_isinstance (pa_cons (pv 12) (pa_cons (pe_bltn (v := .ty "str") rfl B.str_ boot_str rfl) pa_nil))))) (pw_or1 (pt_cmpR op_ne (pv 12) (My.pe_callD D__law_follow (hr.mono (by omega)) rfl (pa_cons (pv 7) (pa_cons (pv 11) pa_nil))) (nomark _))))) (pss_one
              (ps_ret pe_bl)) pss_nil))))
          (pss_cons
          (ps_if (pt_not (pt_val (My.pe_callD D__law_are_words (hr.mono (by omega)) rfl (pa_cons (My.pe_callD D_ends (hr.mono (by omega)) rfl (pa_cons (pv 7) pa_nil)) (pa_cons (pv 8) pa_nil))))) (pss_one
            (ps_ret pe_bl)) pss_nil)
          (pss_cons
          (ps_set (i := 12) sc_law.nd rfl (.inl rfl) (My.pe_callD D_asked (hr.mono (by omega)) rfl (pa_cons (pv 7) pa_nil)))
          (pss_one
          (ps_if (PW.pt (pw_or (pt_not (pt_val (My.pe_callD D__law_is_ascending (hr.mono (by omega)) rfl (pa_cons (pv 12) (pa_cons (pv 2) pa_nil))))) (pw_or1 (pt_cmpR (op_neD hr.units) (pe_callTy call_list_of rfl B.list_ boot_list (pa_cons (pv 12) pa_nil)) (pv 9) (nomark _))))) (pss_one
            (ps_ret pe_bl)) pss_nil))))))
        (pss_one
        (ps_ret pe_bl)))))))))))), ?_⟩
  refine ⟨_, rfl, a, ns, 0, rfl, hS, by decide, fun t c nt c0 => ?_⟩
  have T1 : Tape (upd H t (.lst [.int c, .int 0])) t := tape_new c0
  refine ⟨_, rfl, t, 10, rfl, T1, by decide, by decide, fun H2 d b2 T2 d0 d1 => ⟨_, _, rfl, rfl, ?_⟩⟩
  refine ⟨_, rfl, t, 8, rfl, T2, by decide, by decide, fun H3 sh b3 T3 sh0 sh1 => ?_⟩
  refine ⟨_, rfl, t, 4, rfl, T3, by decide, by decide, fun H4 lv b4 T4 lv0 lv1 => ⟨_, _, rfl, rfl, ?_⟩⟩
  have S4 : Same H H4 := But.same nt (b2.trans (b3.trans b4))
  dsimp only [gName]
  generalize hn : 1 + d = n
  generalize hL : 1 + lv = L
  have n0 : 0 < n := by omega
  have n1 : n ≤ 10 := by omega
  refine ⟨3, rfl, by decide, by decide, fun D nD => ?_⟩
  have hDt : D ≠ t := T4.ne nD
  refine lc_range (lo := 0) (n := 3) (fun i H' => ∃ us : List V, H' D = some (.lst us) ∧ us.length = i ∧ (∀ u ∈ us, RowAt H' n u) ∧ Same H4 H') ⟨[], upd_same, rfl, (fun _ h => nomatch h), same_new nD _⟩ ?_ ?_
  · rintro i H5 hi ⟨us, e1, l1, r1, g5⟩
    refine ⟨rfl, ?_⟩
    refine ⟨_, rfl, _, rfl, _, _, rfl, rfl, a, ns, _, rfl, (S4.trans g5).seq hS, by omega, fun u c nu c0 => ?_⟩
    refine ⟨_, rfl, u, n, rfl, tape_new c0, by omega, by omega, fun H6 p rs b6 T6 hl hs hp => ?_⟩
    have g6 : Same H5 H6 := But.same nu b6
    refine ⟨us, g6 _ _ e1, smallLt (by omega), us ++ [.ref p], upd_same, by simp [l1], fun v hv => ?_, (g5.trans g6).later nD⟩
    refine RowAt.keep (fun p' xs e => upd_tup (g6 _ _ e1) e) ?_
    rcases List.mem_append.mp hv with hv | hv
    · exact (r1 v hv).keep fun p' xs e => g6 _ _ e
    · rw [List.mem_singleton] at hv; subst hv; exact ⟨p, rs, rfl, hp, hl, hs⟩
  rintro H5 ⟨us, e1, l1, r1, g5⟩
  have T5 := T4.same g5
  have S5 := S4.trans g5
  have L0 : 1 ≤ L := by omega
  have L1 : L ≤ 4 := by omega
  match us, l1 with
  | [u0, u1, u2], _ =>
    obtain ⟨p0, rs0, rfl, hp0, hl0, hs0⟩ := r1 u0 (by simp)
    dsimp only [gName]
    refine st_split (t := tIfS _ _ _) (fun σ' H' => ∃ v x, σ' = [some (.ref a), some (.ref t), some (.int n), some (.int sh), some (.int L), some (.ref D), none, some v, none, none, none, none, none] ∧
      TreeAt H' v x ∧ x.Below n ∧ x.depth < 30 ∧ x.asks < 370 ∧ But t H5 H' ∧ Tape H' t) (fun D' hD' => ?_) ?_
    · have p4 : 3 ^ L.toNat ≤ 81 := Nat.pow_le_pow_right (by decide : 3 > 0) (show L.toNat ≤ 4 by omega)
      have p3 : 3 ^ (L - 1).toNat ≤ 27 := Nat.pow_le_pow_right (by decide : 3 > 0) (show (L - 1).toNat ≤ 3 by omega)
      refine ⟨_, rfl, rfl, _, rfl, ?_⟩
      refine ite2 (fun c => ?_) (fun c => ?_)
      · refine ⟨_, rfl, _, rfl, _, rfl, t, 16, rfl, T5, by decide, by decide, fun H6 k b6 T6 k0 k1 => ⟨_, _, rfl, rfl, ?_⟩⟩
        have hD6 : H6 D = some (.lst [.ref p0, u1, u2]) := b6 _ _ hDt e1
        have hp6 : H6 p0 = some (.tup (rs0.map V.int)) := by obtain ⟨l, z⟩ := T5.lst; exact b6.tup z hp0
        refine ⟨_, rfl, D, _, _, _, rfl, rfl, SqL.of hD6, rfl, ?_⟩
        refine ⟨t, n, 5 + k, p0, rs0, rfl, T6, n0, by omega, by omega, by omega, hp6, hl0, hs0, fun H7 v x b7 T7 x1 x2 x3 x4 => ?_⟩
        exact hD' _ _ ⟨v, x, rfl, x1, x2, by omega, by omega, b6.trans b7, T7⟩
      · refine ⟨_, rfl, rfl, _, rfl, ?_⟩
        refine ite2 (fun c => ?_) (fun c => ?_)
        · refine ⟨_, rfl, _, rfl, _, rfl, _, rfl, _, rfl, _, _, rfl, rfl, t, n, L - 1, rfl, T5, n0, by omega, by omega, by omega, fun H6 v x b6 T6 x1 x2 x3 x4 x5 => ?_⟩
          refine ⟨t, n, v, 1, x, rfl, T6, n0, by omega, by decide, by decide, x1, x2, fun H7 v' y b7 T7 y1 y2 y3 y4 => ?_⟩
          have y4 : 2 * y.asks + 1 ≤ 3 * (2 * x.asks + 1) := y4
          have y3 : y.depth ≤ x.depth + 1 := y3
          exact hD' _ _ ⟨v', y, rfl, y1, y2, by omega, by omega, b6.trans b7, T7⟩
        · refine ⟨_, rfl, rfl, _, rfl, ?_⟩
          refine ite2 (fun c => ?_) (fun c => ?_)
          · refine ⟨_, rfl, _, rfl, _, rfl, _, rfl, _, rfl, t, n, L, rfl, T5, n0, by omega, by omega, by omega, fun H6 v x b6 T6 x1 x2 x3 x4 x5 => ?_⟩
            refine ⟨t, n, v, 2, x, rfl, T6, n0, by omega, by decide, by decide, x1, x2, fun H7 v' y b7 T7 y1 y2 y3 y4 => ?_⟩
            have y4 : 2 * y.asks + 1 ≤ 9 * (2 * x.asks + 1) := y4
            have y3 : y.depth ≤ x.depth + 2 := y3
            exact hD' _ _ ⟨v', y, rfl, y1, y2, by omega, by omega, b6.trans b7, T7⟩
          · refine ⟨_, rfl, _, rfl, _, rfl, t, n, L, rfl, T5, n0, by omega, by omega, by omega, fun H6 v x b6 T6 x1 x2 x3 x4 x5 => ?_⟩
            exact hD' _ _ ⟨v, x, rfl, x1, x2, by omega, by omega, b6, T6⟩
    rintro σ' H6 ⟨v, x, rfl, x1, x2, x3, x4, b6, T6⟩
    refine st_split (t := tIfS _ _ _) (fun σ' H' => ∃ v x, σ' = [some (.ref a), some (.ref t), some (.int n), some (.int sh), some (.int L), some (.ref D), none, some v, none, none, none, none, none] ∧
      TreeAt H' v x ∧ x.Below n ∧ x.depth < 30 ∧ x.asks < 370 ∧ But t H5 H') (fun D' hD' => ?_) ?_
    · refine ⟨_, rfl, t, 4, rfl, T6, by decide, by decide, fun H7 r b7 T7 r0 r1 => ⟨rfl, _, rfl, ?_⟩⟩
      have x17 := x1.tape b7 T6
      refine ite2 (fun c => ?_) (fun c => ?_)
      · refine ⟨_, rfl, small (by show 2 ≤ 100000; decide), fun p np => ?_⟩
        have g := same_new np (.lst [.str "older", .str "newer"])
        refine ⟨_, rfl, t, 2, rfl, T7.same g, by decide, by decide, fun H8 r b8 T8 r0 r1 => ?_⟩
        obtain ⟨s, hs, hw⟩ := two_words r0 r1
        refine ⟨p, _, r, _, rfl, rfl, SqL.of (b8 p _ (T7.ne np) upd_same), hs, ?_⟩
        refine ⟨v, x, s, rfl, (x17.same g).tape b8 (T7.same g), by omega, fun H9 v' g9 hv => ?_⟩
        exact hD' _ _ ⟨v', x.clash s, rfl, hv, Tr.clash_below s x2, by rw [Tr.clash_depth]; omega, by rw [Tr.clash_asks]; omega, b6.trans (b7.trans ((But.of g).trans (b8.trans (But.of g9))))⟩
      · exact hD' _ _ ⟨v, x, rfl, x17, x2, x3, x4, b6.trans b7⟩
    clear x1 x2 x3 x4 b6 T6 H6 v x
    rintro σ' H6 ⟨v, x, rfl, x1, x2, x3, x4, b6⟩
    have hD6 : H6 D = some (.lst [.ref p0, u1, u2]) := b6 _ _ hDt e1
    obtain ⟨tl, htl⟩ := T5.lst
    have rows : ∀ u ∈ [V.ref p0, u1, u2], RowAt H6 n u := fun u hu => (r1 u hu).keep fun p xs e => b6.tup htl e
    refine ⟨_, rfl, v, x, rfl, x1, by omega, fun pe H7 g7 e7 => ?_⟩
    refine ⟨_, rfl, v, x, rfl, x1.same g7, by omega, fun pf H8 fs g8 pw m e8 => ?_⟩
    have g68 := g7.trans g8
    refine ⟨2, rfl, by decide, by decide, ?_⟩
    refine for_range (lo := 0) (n := 2) (fun i σ H' => ∃ s10 s11 s12, σ = [some (.ref a), some (.ref t), some (.int n), some (.int sh), some (.int L), some (.ref D), none, some v, some (.ref pe), some (.ref pf), s10, s11, s12] ∧ Same H8 H')
      ⟨_, _, _, rfl, Same.refl _⟩ ?_ ?_
    · rintro i σ H9 hi ⟨s10, s11, s12, rfl, g9⟩
      have g69 := g68.trans g9
      refine ⟨_, rfl, D, rfl, ⟨_, SqL.of (g69 _ _ hD6)⟩, ?_⟩
      refine for_list (xs := [V.ref p0, u1, u2]) (fun i' σ H' => ∃ s11 s12, σ = [some (.ref a), some (.ref t), some (.int n), some (.int sh), some (.int L), some (.ref D), none, some v, some (.ref pe), some (.ref pf), some (.int (0 + i)), s11, s12] ∧ Same H9 H')
        ⟨_, _, rfl, Same.refl _⟩ ?_ ?_ ?_
      · rintro i' σ H' _ ⟨s11, s12, rfl, g⟩
        exact SqL.of (g _ _ (g69 _ _ hD6))
      · rintro i' u σ H' hu ⟨s11, s12, rfl, g⟩
        obtain ⟨p, rs, rfl, hp, hl, hs⟩ := rows u (List.mem_of_getElem? hu)
        have gg := g69.trans g
        have hp' := gg _ _ hp
        have hb : x.Below rs.length := by rw [hl]; exact x2
        refine ⟨_, rfl, _, rfl, v, p, x, rs, rfl, x1.same gg, SqT.of hp', hs, hb, ?_⟩
        refine ⟨_, rfl, _, _, _, _, true, rfl, .ty _, .base (.str _), k_ss, ?_⟩
        refine ⟨_, rfl, ?_⟩
        refine iteF ?_
        refine ⟨_, rfl, _, rfl, _, rfl, v, p, x, rs, rfl, x1.same gg, SqT.of hp', hs, hb, by omega, rfl, _, rfl, ?_⟩
        refine iteNS rfl ?_
        exact ⟨_, _, rfl, g⟩
      · rintro σ H' ⟨s11, s12, rfl, g⟩
        have gg := g69.trans g
        refine ⟨_, rfl, v, x, rfl, x1.same gg, by omega, by omega, fun p H10 g10 e10 => ?_⟩
        have hle := x.ends_len
        refine ⟨_, rfl, p, pe, x.ends, rfl, e10, g10 _ _ (g _ _ (g9 _ _ (g8 _ _ e7))), by omega, ?_⟩
        refine ⟨_, rfl, ?_⟩
        refine iteF ?_
        refine ⟨_, rfl, v, x, rfl, (x1.same gg).same g10, by omega, by omega, x2.mono (by omega), fun p2 H11 fs2 g11 pw2 m2 e11 => ?_⟩
        have efs : fs2 = fs := asc_same pw2 pw fun k => (m2 k).trans (m k).symm
        subst efs
        refine ⟨_, rfl, _, rfl, p2, n, fs2, rfl, e11, pw2, fun k hk => Tr.below_mem x2 k ((m2 k).mp hk), ?_⟩
        refine ⟨_, rfl, ?_⟩
        refine iteF ?_
        refine ⟨_, rfl, p2, _, rfl, .inr (SqT.of e11), fun p3 n3 => ?_⟩
        have ga := (g.trans (g10.trans (g11.trans (same_new n3 (.lst (fs2.map V.int))))))
        have e8' := ga _ _ (g9 _ _ e8)
        refine ⟨_, rfl, .list (fs2.map PyData.int), .list (fs2.map PyData.int), .lst (SqL.of upd_same) (dpInts fs2), .lst (SqL.of e8') (dpInts fs2), shapedInts fs2, shapedInts fs2, _, rfl, ?_⟩
        rw [SeqAt.eqv_refl _ (canInts fs2)]
        refine iteF ?_
        exact ⟨_, _, _, rfl, g9.trans ga⟩
    · rintro σ H' ⟨s10, s11, s12, rfl, g⟩
      exact q _
end
-- dn branch : dn_branch @ctx F_branch
-- dn follow : dn_follow @ctx B F_follow D_branch
-- dn ends : dn_ends @ctx B F_ends 60
-- dn all_asks : dn_all @ctx B F_all_asks 60
-- dn asked : dn_asked @ctx B F_asked D_all_asks
-- dn tape : dn_tape @ctx B F__law_tape
-- dn take : dn_take @ctx B F__law_take
-- dn tree : dn_tree @ctx B F__law_tree D_take 8
-- dn wide : dn_wide @ctx B F__law_wide D_take
-- dn row : dn_row @ctx B F__law_row D_take
-- dn vine : dn_vine @ctx B F__law_vine D_take
-- dn clash : dn_clash @ctx B F__law_clashing 60
-- dn lfollow : dn_lfollow @ctx B F__law_follow
-- dn lends : dn_lends @ctx B F__law_ends
-- dn lasked : dn_lasked @ctx B F__law_asked
-- dn isint : dn_isint @ctx B F__law_is_integer
-- dn asc : dn_asc @ctx B F__law_is_ascending D_isint
-- dn words : dn_words @ctx B F__law_are_words
-- dn law : ok_law @ctx B @Q D_tape D_take D_row D_vine D_wide D_tree D_clash D_lends D_lasked D_lfollow D_words D_asc D_follow D_ends D_asked
/-! ### the program's top -/
theorem all_mk {l : PySem.W.OpenLaw} {w : World} {K : PySem.W.Frag} {h : Heap} {mg : Str → Option Value} {fa : Addr} (X : K.In h) (G : h.Ns mainGlobals mg) (hfa : mg "law" = some (.ref fa))
    {f1 : Addr} {od1 an1 : Option Addr} {sl1 : Array (Option Value)} {oc1 kV1 dc1 pm1 cd1 ct1 : Value}
    (a1 : PySem.W.nsIn K mainGlobals "branch" = some (some (.ref f1))) (l1 : K.lookup f1 = some ⟨oc1, od1, .func (PySem.W.fnOf "branch" "branch" (defArgs s_branch) (defBody s_branch) (defScope s_branch) .none kV1 dc1 pm1 an1 cd1 ct1), sl1⟩) (c1 : PySem.W.codeIn K cd1 "branch" = true) (k1 : PySem.W.keepIn K (.ref f1) = true)
    {f2 : Addr} {od2 an2 : Option Addr} {sl2 : Array (Option Value)} {oc2 kV2 dc2 pm2 cd2 ct2 : Value}
    (a2 : PySem.W.nsIn K mainGlobals "follow" = some (some (.ref f2))) (l2 : K.lookup f2 = some ⟨oc2, od2, .func (PySem.W.fnOf "follow" "follow" (defArgs s_follow) (defBody s_follow) (defScope s_follow) .none kV2 dc2 pm2 an2 cd2 ct2), sl2⟩) (c2 : PySem.W.codeIn K cd2 "follow" = true) (k2 : PySem.W.keepIn K (.ref f2) = true)
    {f3 : Addr} {od3 an3 : Option Addr} {sl3 : Array (Option Value)} {oc3 kV3 dc3 pm3 cd3 ct3 : Value}
    (a3 : PySem.W.nsIn K mainGlobals "ends" = some (some (.ref f3))) (l3 : K.lookup f3 = some ⟨oc3, od3, .func (PySem.W.fnOf "ends" "ends" (defArgs s_ends) (defBody s_ends) (defScope s_ends) .none kV3 dc3 pm3 an3 cd3 ct3), sl3⟩) (c3 : PySem.W.codeIn K cd3 "ends" = true) (k3 : PySem.W.keepIn K (.ref f3) = true)
    {f4 : Addr} {od4 an4 : Option Addr} {sl4 : Array (Option Value)} {oc4 kV4 dc4 pm4 cd4 ct4 : Value}
    (a4 : PySem.W.nsIn K mainGlobals "all_asks" = some (some (.ref f4))) (l4 : K.lookup f4 = some ⟨oc4, od4, .func (PySem.W.fnOf "all_asks" "all_asks" (defArgs s_all_asks) (defBody s_all_asks) (defScope s_all_asks) .none kV4 dc4 pm4 an4 cd4 ct4), sl4⟩) (c4 : PySem.W.codeIn K cd4 "all_asks" = true) (k4 : PySem.W.keepIn K (.ref f4) = true)
    {f5 : Addr} {od5 an5 : Option Addr} {sl5 : Array (Option Value)} {oc5 kV5 dc5 pm5 cd5 ct5 : Value}
    (a5 : PySem.W.nsIn K mainGlobals "asked" = some (some (.ref f5))) (l5 : K.lookup f5 = some ⟨oc5, od5, .func (PySem.W.fnOf "asked" "asked" (defArgs s_asked) (defBody s_asked) (defScope s_asked) .none kV5 dc5 pm5 an5 cd5 ct5), sl5⟩) (c5 : PySem.W.codeIn K cd5 "asked" = true) (k5 : PySem.W.keepIn K (.ref f5) = true)
    {f6 : Addr} {od6 an6 : Option Addr} {sl6 : Array (Option Value)} {oc6 kV6 dc6 pm6 cd6 ct6 : Value}
    (a6 : PySem.W.nsIn K mainGlobals "_law_tape" = some (some (.ref f6))) (l6 : K.lookup f6 = some ⟨oc6, od6, .func (PySem.W.fnOf "_law_tape" "_law_tape" (defArgs s__law_tape) (defBody s__law_tape) (defScope s__law_tape) .none kV6 dc6 pm6 an6 cd6 ct6), sl6⟩) (c6 : PySem.W.codeIn K cd6 "_law_tape" = true) (k6 : PySem.W.keepIn K (.ref f6) = true)
    {f7 : Addr} {od7 an7 : Option Addr} {sl7 : Array (Option Value)} {oc7 kV7 dc7 pm7 cd7 ct7 : Value}
    (a7 : PySem.W.nsIn K mainGlobals "_law_take" = some (some (.ref f7))) (l7 : K.lookup f7 = some ⟨oc7, od7, .func (PySem.W.fnOf "_law_take" "_law_take" (defArgs s__law_take) (defBody s__law_take) (defScope s__law_take) .none kV7 dc7 pm7 an7 cd7 ct7), sl7⟩) (c7 : PySem.W.codeIn K cd7 "_law_take" = true) (k7 : PySem.W.keepIn K (.ref f7) = true)
    {f8 : Addr} {od8 an8 : Option Addr} {sl8 : Array (Option Value)} {oc8 kV8 dc8 pm8 cd8 ct8 : Value}
    (a8 : PySem.W.nsIn K mainGlobals "_law_tree" = some (some (.ref f8))) (l8 : K.lookup f8 = some ⟨oc8, od8, .func (PySem.W.fnOf "_law_tree" "_law_tree" (defArgs s__law_tree) (defBody s__law_tree) (defScope s__law_tree) .none kV8 dc8 pm8 an8 cd8 ct8), sl8⟩) (c8 : PySem.W.codeIn K cd8 "_law_tree" = true) (k8 : PySem.W.keepIn K (.ref f8) = true)
    {f9 : Addr} {od9 an9 : Option Addr} {sl9 : Array (Option Value)} {oc9 kV9 dc9 pm9 cd9 ct9 : Value}
    (a9 : PySem.W.nsIn K mainGlobals "_law_wide" = some (some (.ref f9))) (l9 : K.lookup f9 = some ⟨oc9, od9, .func (PySem.W.fnOf "_law_wide" "_law_wide" (defArgs s__law_wide) (defBody s__law_wide) (defScope s__law_wide) .none kV9 dc9 pm9 an9 cd9 ct9), sl9⟩) (c9 : PySem.W.codeIn K cd9 "_law_wide" = true) (k9 : PySem.W.keepIn K (.ref f9) = true)
    {f10 : Addr} {od10 an10 : Option Addr} {sl10 : Array (Option Value)} {oc10 kV10 dc10 pm10 cd10 ct10 : Value}
    (a10 : PySem.W.nsIn K mainGlobals "_law_row" = some (some (.ref f10))) (l10 : K.lookup f10 = some ⟨oc10, od10, .func (PySem.W.fnOf "_law_row" "_law_row" (defArgs s__law_row) (defBody s__law_row) (defScope s__law_row) .none kV10 dc10 pm10 an10 cd10 ct10), sl10⟩) (c10 : PySem.W.codeIn K cd10 "_law_row" = true) (k10 : PySem.W.keepIn K (.ref f10) = true)
    {f11 : Addr} {od11 an11 : Option Addr} {sl11 : Array (Option Value)} {oc11 kV11 dc11 pm11 cd11 ct11 : Value}
    (a11 : PySem.W.nsIn K mainGlobals "_law_vine" = some (some (.ref f11))) (l11 : K.lookup f11 = some ⟨oc11, od11, .func (PySem.W.fnOf "_law_vine" "_law_vine" (defArgs s__law_vine) (defBody s__law_vine) (defScope s__law_vine) .none kV11 dc11 pm11 an11 cd11 ct11), sl11⟩) (c11 : PySem.W.codeIn K cd11 "_law_vine" = true) (k11 : PySem.W.keepIn K (.ref f11) = true)
    {f12 : Addr} {od12 an12 : Option Addr} {sl12 : Array (Option Value)} {oc12 kV12 dc12 pm12 cd12 ct12 : Value}
    (a12 : PySem.W.nsIn K mainGlobals "_law_clashing" = some (some (.ref f12))) (l12 : K.lookup f12 = some ⟨oc12, od12, .func (PySem.W.fnOf "_law_clashing" "_law_clashing" (defArgs s__law_clashing) (defBody s__law_clashing) (defScope s__law_clashing) .none kV12 dc12 pm12 an12 cd12 ct12), sl12⟩) (c12 : PySem.W.codeIn K cd12 "_law_clashing" = true) (k12 : PySem.W.keepIn K (.ref f12) = true)
    {f13 : Addr} {od13 an13 : Option Addr} {sl13 : Array (Option Value)} {oc13 kV13 dc13 pm13 cd13 ct13 : Value}
    (a13 : PySem.W.nsIn K mainGlobals "_law_follow" = some (some (.ref f13))) (l13 : K.lookup f13 = some ⟨oc13, od13, .func (PySem.W.fnOf "_law_follow" "_law_follow" (defArgs s__law_follow) (defBody s__law_follow) (defScope s__law_follow) .none kV13 dc13 pm13 an13 cd13 ct13), sl13⟩) (c13 : PySem.W.codeIn K cd13 "_law_follow" = true) (k13 : PySem.W.keepIn K (.ref f13) = true)
    {f14 : Addr} {od14 an14 : Option Addr} {sl14 : Array (Option Value)} {oc14 kV14 dc14 pm14 cd14 ct14 : Value}
    (a14 : PySem.W.nsIn K mainGlobals "_law_ends" = some (some (.ref f14))) (l14 : K.lookup f14 = some ⟨oc14, od14, .func (PySem.W.fnOf "_law_ends" "_law_ends" (defArgs s__law_ends) (defBody s__law_ends) (defScope s__law_ends) .none kV14 dc14 pm14 an14 cd14 ct14), sl14⟩) (c14 : PySem.W.codeIn K cd14 "_law_ends" = true) (k14 : PySem.W.keepIn K (.ref f14) = true)
    {f15 : Addr} {od15 an15 : Option Addr} {sl15 : Array (Option Value)} {oc15 kV15 dc15 pm15 cd15 ct15 : Value}
    (a15 : PySem.W.nsIn K mainGlobals "_law_asked" = some (some (.ref f15))) (l15 : K.lookup f15 = some ⟨oc15, od15, .func (PySem.W.fnOf "_law_asked" "_law_asked" (defArgs s__law_asked) (defBody s__law_asked) (defScope s__law_asked) .none kV15 dc15 pm15 an15 cd15 ct15), sl15⟩) (c15 : PySem.W.codeIn K cd15 "_law_asked" = true) (k15 : PySem.W.keepIn K (.ref f15) = true)
    {f16 : Addr} {od16 an16 : Option Addr} {sl16 : Array (Option Value)} {oc16 kV16 dc16 pm16 cd16 ct16 : Value}
    (a16 : PySem.W.nsIn K mainGlobals "_law_is_integer" = some (some (.ref f16))) (l16 : K.lookup f16 = some ⟨oc16, od16, .func (PySem.W.fnOf "_law_is_integer" "_law_is_integer" (defArgs s__law_is_integer) (defBody s__law_is_integer) (defScope s__law_is_integer) .none kV16 dc16 pm16 an16 cd16 ct16), sl16⟩) (c16 : PySem.W.codeIn K cd16 "_law_is_integer" = true) (k16 : PySem.W.keepIn K (.ref f16) = true)
    {f17 : Addr} {od17 an17 : Option Addr} {sl17 : Array (Option Value)} {oc17 kV17 dc17 pm17 cd17 ct17 : Value}
    (a17 : PySem.W.nsIn K mainGlobals "_law_is_ascending" = some (some (.ref f17))) (l17 : K.lookup f17 = some ⟨oc17, od17, .func (PySem.W.fnOf "_law_is_ascending" "_law_is_ascending" (defArgs s__law_is_ascending) (defBody s__law_is_ascending) (defScope s__law_is_ascending) .none kV17 dc17 pm17 an17 cd17 ct17), sl17⟩) (c17 : PySem.W.codeIn K cd17 "_law_is_ascending" = true) (k17 : PySem.W.keepIn K (.ref f17) = true)
    {f18 : Addr} {od18 an18 : Option Addr} {sl18 : Array (Option Value)} {oc18 kV18 dc18 pm18 cd18 ct18 : Value}
    (a18 : PySem.W.nsIn K mainGlobals "_law_are_words" = some (some (.ref f18))) (l18 : K.lookup f18 = some ⟨oc18, od18, .func (PySem.W.fnOf "_law_are_words" "_law_are_words" (defArgs s__law_are_words) (defBody s__law_are_words) (defScope s__law_are_words) .none kV18 dc18 pm18 an18 cd18 ct18), sl18⟩) (c18 : PySem.W.codeIn K cd18 "_law_are_words" = true) (k18 : PySem.W.keepIn K (.ref f18) = true)
    {f19 : Addr} {od19 an19 : Option Addr} {sl19 : Array (Option Value)} {oc19 kV19 dc19 pm19 cd19 ct19 : Value}
    (a19 : PySem.W.nsIn K mainGlobals "law" = some (some (.ref f19))) (l19 : K.lookup f19 = some ⟨oc19, od19, .func (PySem.W.fnOf "law" "law" (defArgs s_law) (defBody s_law) (defScope s_law) .none kV19 dc19 pm19 an19 cd19 ct19), sl19⟩) (c19 : PySem.W.codeIn K cd19 "law" = true) (k19 : PySem.W.keepIn K (.ref f19) = true)
    (z_abs : PySem.W.nsIn K mainGlobals "abs" = some none)
    (z_bool : PySem.W.nsIn K mainGlobals "bool" = some none)
    (z_int : PySem.W.nsIn K mainGlobals "int" = some none)
    (z_isinstance : PySem.W.nsIn K mainGlobals "isinstance" = some none)
    (z_len : PySem.W.nsIn K mainGlobals "len" = some none)
    (z_list : PySem.W.nsIn K mainGlobals "list" = some none)
    (z_range : PySem.W.nsIn K mainGlobals "range" = some none)
    (z_set : PySem.W.nsIn K mainGlobals "set" = some none)
    (z_sorted : PySem.W.nsIn K mainGlobals "sorted" = some none)
    (z_str : PySem.W.nsIn K mainGlobals "str" = some none)
    (z_tuple : PySem.W.nsIn K mainGlobals "tuple" = some none)
    : ∃ fd : FuncData, (∀ (s : Shared) (v : Value), BindsTo s fd ⟨[v], []⟩ [("_law_script", v)]) ∧ ∀ base : Heap, K.In base → base.Ns mainGlobals mg → FnOk l.prog w K mg base CX0 62 fa fd ["_law_script"] (sp_law K) := by
  have e := hfa.symm.trans (PySem.W.mg_of X G a19)
  cases e
  have B : Bts mg := ⟨PySem.W.mg_none_of X G z_abs, PySem.W.mg_none_of X G z_bool, PySem.W.mg_none_of X G z_int, PySem.W.mg_none_of X G z_isinstance, PySem.W.mg_none_of X G z_len, PySem.W.mg_none_of X G z_list, PySem.W.mg_none_of X G z_range, PySem.W.mg_none_of X G z_set, PySem.W.mg_none_of X G z_sorted, PySem.W.mg_none_of X G z_str, PySem.W.mg_none_of X G z_tuple⟩
  have Q1 := fun_mk (st := s_branch) l1 c1 k1
  have F_branch : Df K mg "branch" s_branch P_branch := ⟨_, _, Q1, Q1.binds (ps := P_branch) fun _ _ _ _ _ _ us hl => match us, hl with | [_, _], _ => rfl, PySem.W.mg_of X G a1⟩
  have Q2 := fun_mk (st := s_follow) l2 c2 k2
  have F_follow : Df K mg "follow" s_follow P_follow := ⟨_, _, Q2, Q2.binds (ps := P_follow) fun _ _ _ _ _ _ us hl => match us, hl with | [_, _], _ => rfl, PySem.W.mg_of X G a2⟩
  have Q3 := fun_mk (st := s_ends) l3 c3 k3
  have F_ends : Df K mg "ends" s_ends P_ends := ⟨_, _, Q3, Q3.binds (ps := P_ends) fun _ _ _ _ _ _ us hl => match us, hl with | [_], _ => rfl, PySem.W.mg_of X G a3⟩
  have Q4 := fun_mk (st := s_all_asks) l4 c4 k4
  have F_all_asks : Df K mg "all_asks" s_all_asks P_all_asks := ⟨_, _, Q4, Q4.binds (ps := P_all_asks) fun _ _ _ _ _ _ us hl => match us, hl with | [_], _ => rfl, PySem.W.mg_of X G a4⟩
  have Q5 := fun_mk (st := s_asked) l5 c5 k5
  have F_asked : Df K mg "asked" s_asked P_asked := ⟨_, _, Q5, Q5.binds (ps := P_asked) fun _ _ _ _ _ _ us hl => match us, hl with | [_], _ => rfl, PySem.W.mg_of X G a5⟩
  have Q6 := fun_mk (st := s__law_tape) l6 c6 k6
  have F__law_tape : Df K mg "_law_tape" s__law_tape P__law_tape := ⟨_, _, Q6, Q6.binds (ps := P__law_tape) fun _ _ _ _ _ _ us hl => match us, hl with | [_, _], _ => rfl, PySem.W.mg_of X G a6⟩
  have Q7 := fun_mk (st := s__law_take) l7 c7 k7
  have F__law_take : Df K mg "_law_take" s__law_take P__law_take := ⟨_, _, Q7, Q7.binds (ps := P__law_take) fun _ _ _ _ _ _ us hl => match us, hl with | [_, _], _ => rfl, PySem.W.mg_of X G a7⟩
  have Q8 := fun_mk (st := s__law_tree) l8 c8 k8
  have F__law_tree : Df K mg "_law_tree" s__law_tree P__law_tree := ⟨_, _, Q8, Q8.binds (ps := P__law_tree) fun _ _ _ _ _ _ us hl => match us, hl with | [_, _, _], _ => rfl, PySem.W.mg_of X G a8⟩
  have Q9 := fun_mk (st := s__law_wide) l9 c9 k9
  have F__law_wide : Df K mg "_law_wide" s__law_wide P__law_wide := ⟨_, _, Q9, Q9.binds (ps := P__law_wide) fun _ _ _ _ _ _ us hl => match us, hl with | [_, _, _, _], _ => rfl, PySem.W.mg_of X G a9⟩
  have Q10 := fun_mk (st := s__law_row) l10 c10 k10
  have F__law_row : Df K mg "_law_row" s__law_row P__law_row := ⟨_, _, Q10, Q10.binds (ps := P__law_row) fun _ _ _ _ _ _ us hl => match us, hl with | [_, _], _ => rfl, PySem.W.mg_of X G a10⟩
  have Q11 := fun_mk (st := s__law_vine) l11 c11 k11
  have F__law_vine : Df K mg "_law_vine" s__law_vine P__law_vine := ⟨_, _, Q11, Q11.binds (ps := P__law_vine) fun _ _ _ _ _ _ us hl => match us, hl with | [_, _, _, _], _ => rfl, PySem.W.mg_of X G a11⟩
  have Q12 := fun_mk (st := s__law_clashing) l12 c12 k12
  have F__law_clashing : Df K mg "_law_clashing" s__law_clashing P__law_clashing := ⟨_, _, Q12, Q12.binds (ps := P__law_clashing) fun _ _ _ _ _ _ us hl => match us, hl with | [_, _], _ => rfl, PySem.W.mg_of X G a12⟩
  have Q13 := fun_mk (st := s__law_follow) l13 c13 k13
  have F__law_follow : Df K mg "_law_follow" s__law_follow P__law_follow := ⟨_, _, Q13, Q13.binds (ps := P__law_follow) fun _ _ _ _ _ _ us hl => match us, hl with | [_, _], _ => rfl, PySem.W.mg_of X G a13⟩
  have Q14 := fun_mk (st := s__law_ends) l14 c14 k14
  have F__law_ends : Df K mg "_law_ends" s__law_ends P__law_ends := ⟨_, _, Q14, Q14.binds (ps := P__law_ends) fun _ _ _ _ _ _ us hl => match us, hl with | [_], _ => rfl, PySem.W.mg_of X G a14⟩
  have Q15 := fun_mk (st := s__law_asked) l15 c15 k15
  have F__law_asked : Df K mg "_law_asked" s__law_asked P__law_asked := ⟨_, _, Q15, Q15.binds (ps := P__law_asked) fun _ _ _ _ _ _ us hl => match us, hl with | [_], _ => rfl, PySem.W.mg_of X G a15⟩
  have Q16 := fun_mk (st := s__law_is_integer) l16 c16 k16
  have F__law_is_integer : Df K mg "_law_is_integer" s__law_is_integer P__law_is_integer := ⟨_, _, Q16, Q16.binds (ps := P__law_is_integer) fun _ _ _ _ _ _ us hl => match us, hl with | [_], _ => rfl, PySem.W.mg_of X G a16⟩
  have Q17 := fun_mk (st := s__law_is_ascending) l17 c17 k17
  have F__law_is_ascending : Df K mg "_law_is_ascending" s__law_is_ascending P__law_is_ascending := ⟨_, _, Q17, Q17.binds (ps := P__law_is_ascending) fun _ _ _ _ _ _ us hl => match us, hl with | [_, _], _ => rfl, PySem.W.mg_of X G a17⟩
  have Q18 := fun_mk (st := s__law_are_words) l18 c18 k18
  have F__law_are_words : Df K mg "_law_are_words" s__law_are_words P__law_are_words := ⟨_, _, Q18, Q18.binds (ps := P__law_are_words) fun _ _ _ _ _ _ us hl => match us, hl with | [_, _], _ => rfl, PySem.W.mg_of X G a18⟩
  have Q19 := fun_mk (st := s_law) l19 c19 k19
  have F_law : Df K mg "law" s_law P_law := ⟨_, _, Q19, Q19.binds (ps := P_law) fun _ _ _ _ _ _ us hl => match us, hl with | [_], _ => rfl, PySem.W.mg_of X G a19⟩
  refine ⟨PySem.W.fnOf "law" "law" (defArgs s_law) (defBody s_law) (defScope s_law) .none kV19 dc19 pm19 an19 cd19 ct19, fun s v => .of_eq rfl, fun base _ _ => ?_⟩
  have D_branch := dn_branch (P := l.prog) (w := w) (base := base) F_branch
  have D_follow := dn_follow (P := l.prog) (w := w) (base := base) B F_follow D_branch
  have D_ends := dn_ends (P := l.prog) (w := w) (base := base) B F_ends 60
  have D_all_asks := dn_all (P := l.prog) (w := w) (base := base) B F_all_asks 60
  have D_asked := dn_asked (P := l.prog) (w := w) (base := base) B F_asked D_all_asks
  have D_tape := dn_tape (P := l.prog) (w := w) (base := base) B F__law_tape
  have D_take := dn_take (P := l.prog) (w := w) (base := base) B F__law_take
  have D_tree := dn_tree (P := l.prog) (w := w) (base := base) B F__law_tree D_take 8
  have D_wide := dn_wide (P := l.prog) (w := w) (base := base) B F__law_wide D_take
  have D_row := dn_row (P := l.prog) (w := w) (base := base) B F__law_row D_take
  have D_vine := dn_vine (P := l.prog) (w := w) (base := base) B F__law_vine D_take
  have D_clash := dn_clash (P := l.prog) (w := w) (base := base) B F__law_clashing 60
  have D_lfollow := dn_lfollow (P := l.prog) (w := w) (base := base) B F__law_follow
  have D_lends := dn_lends (P := l.prog) (w := w) (base := base) B F__law_ends
  have D_lasked := dn_lasked (P := l.prog) (w := w) (base := base) B F__law_asked
  have D_isint := dn_isint (P := l.prog) (w := w) (base := base) B F__law_is_integer
  have D_asc := dn_asc (P := l.prog) (w := w) (base := base) B F__law_is_ascending D_isint
  have D_words := dn_words (P := l.prog) (w := w) (base := base) B F__law_are_words
  exact ok_law (P := l.prog) (w := w) (base := base) B Q19 D_tape D_take D_row D_vine D_wide D_tree D_clash D_lends D_lasked D_lfollow D_words D_asc D_follow D_ends D_asked
theorem walk {l : PySem.W.OpenLaw} {q : Program} {loose : List Str} {XP : (Str → Option Value) → Heap → Prop} {YP : World → Heap → Prop} {d : DefRec} {K : Params → PySem.W.Frag} (hn : l.most = some 63) (hdf : d.params.defaults = [])
    (hY : ∀ (w : World) (h : Heap), YP w h → (K w.params).In h)
    (F : ∀ (w : World) (mg : Str → Option Value) (fa : Addr) (h : Heap), (K w.params).In h → h.Ns mainGlobals mg → mg d.name = some (.ref fa) →
      ∃ fd : FuncData, (∀ (s : Shared) (u : Value), BindsTo s fd ⟨[u], []⟩ [("_law_script", u)]) ∧ ∀ base : Heap, (K w.params).In base → base.Ns mainGlobals mg → FnOk l.prog w (K w.params) mg base CX0 62 fa fd ["_law_script"] (sp_law (K w.params))) :
    PySem.W.WalkO q loose XP YP l.row.toRowW d [] (fun f vs => PySem.call f vs) :=
  L2.walk_of (n := 63) (k := 62) (x := "_law_script") (CX := fun _ => CX0) (sp := fun w => sp_law (K w.params)) hn (by decide) hdf ⟨rfl, by decide, by decide⟩ hY F (fun w H a ns hl _ hS => ⟨a, ns, rfl, hS, hl, fun _ => rfl⟩) fun _ _ _ _ _ z => z
end Law
open PySem PySem.W PyProof.Rows
set_option maxRecDepth 100000 in
set_option maxHeartbeats 0 in
theorem PySem.Challenge.cw_fieldrides_k01_follow_a_tree_holds : PySem.Challenge.rw_fieldrides_k01_follow_a_tree.Holds := by
  w_on; o_law; k_head; (case hw => w_witness2)
  k_fill
  refine Law.walk (l := PySem.Challenge.rw_fieldrides_k01_follow_a_tree) rfl rfl (fun w h Y => PySem.W.kIn_of Y) ?F
  case F =>
    intro w mg fa h KX G hmg
    refine' Law.all_mk KX G hmg ?a1 ?l1 ?c1 ?k1 ?a2 ?l2 ?c2 ?k2 ?a3 ?l3 ?c3 ?k3 ?a4 ?l4 ?c4 ?k4 ?a5 ?l5 ?c5 ?k5 ?a6 ?l6 ?c6 ?k6 ?a7 ?l7 ?c7 ?k7 ?a8 ?l8 ?c8 ?k8 ?a9 ?l9 ?c9 ?k9 ?a10 ?l10 ?c10 ?k10 ?a11 ?l11 ?c11 ?k11 ?a12 ?l12 ?c12 ?k12 ?a13 ?l13 ?c13 ?k13 ?a14 ?l14 ?c14 ?k14 ?a15 ?l15 ?c15 ?k15 ?a16 ?l16 ?c16 ?k16 ?a17 ?l17 ?c17 ?k17 ?a18 ?l18 ?c18 ?k18 ?a19 ?l19 ?c19 ?k19 ?z_abs ?z_bool ?z_int ?z_isinstance ?z_len ?z_list ?z_range ?z_set ?z_sorted ?z_str ?z_tuple
    (case a1 => k_is); (case l1 => k_is); (case c1 => k_is); (case k1 => k_is)
    (case a2 => k_is); (case l2 => k_is); (case c2 => k_is); (case k2 => k_is)
    (case a3 => k_is); (case l3 => k_is); (case c3 => k_is); (case k3 => k_is)
    (case a4 => k_is); (case l4 => k_is); (case c4 => k_is); (case k4 => k_is)
    (case a5 => k_is); (case l5 => k_is); (case c5 => k_is); (case k5 => k_is)
    (case a6 => k_is); (case l6 => k_is); (case c6 => k_is); (case k6 => k_is)
    (case a7 => k_is); (case l7 => k_is); (case c7 => k_is); (case k7 => k_is)
    (case a8 => k_is); (case l8 => k_is); (case c8 => k_is); (case k8 => k_is)
    (case a9 => k_is); (case l9 => k_is); (case c9 => k_is); (case k9 => k_is)
    (case a10 => k_is); (case l10 => k_is); (case c10 => k_is); (case k10 => k_is)
    (case a11 => k_is); (case l11 => k_is); (case c11 => k_is); (case k11 => k_is)
    (case a12 => k_is); (case l12 => k_is); (case c12 => k_is); (case k12 => k_is)
    (case a13 => k_is); (case l13 => k_is); (case c13 => k_is); (case k13 => k_is)
    (case a14 => k_is); (case l14 => k_is); (case c14 => k_is); (case k14 => k_is)
    (case a15 => k_is); (case l15 => k_is); (case c15 => k_is); (case k15 => k_is)
    (case a16 => k_is); (case l16 => k_is); (case c16 => k_is); (case k16 => k_is)
    (case a17 => k_is); (case l17 => k_is); (case c17 => k_is); (case k17 => k_is)
    (case a18 => k_is); (case l18 => k_is); (case c18 => k_is); (case k18 => k_is)
    (case a19 => k_is); (case l19 => k_is); (case c19 => k_is); (case k19 => k_is)
    (case z_abs => k_is)
    (case z_bool => k_is)
    (case z_int => k_is)
    (case z_isinstance => k_is)
    (case z_len => k_is)
    (case z_list => k_is)
    (case z_range => k_is)
    (case z_set => k_is)
    (case z_sorted => k_is)
    (case z_str => k_is)
    (case z_tuple => k_is)

